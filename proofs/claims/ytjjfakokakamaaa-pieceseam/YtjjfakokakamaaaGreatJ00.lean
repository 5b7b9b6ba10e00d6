import Derived.Test.YtjjfakokakamaaaGreatRows
import Derived.WalkKit
import Derived.WalkSpells
import Derived.WalkLawsBesides
import Derived.StillTactics
import Derived.Deep.QuietTactic
import Derived.BigQuiet
import Derived.Outline
import Derived.LoopTactic
import Derived.Deep.RegionWith
import Derived.Laws.AppendOwnNone
import Derived.Deep.RegionHeld3
import Derived.Laws.BytesArg
import Derived.Lib.Strings
import Derived.OrdersHeld
namespace Go.Proofs.YtjjfakokakamaaaGreat
theorem tkH {P : Program} {ops : Array Oper} {Q : Exit → Act → World → Prop} {md : Region.Mode} {S : World → Prop} (i : Nat) {oi : Oper} {v : Value} {fuel : Nat} {listed : Array Bool} {a : Act} {w : World} (hi : ops[i]? = some oi)
    (hv : ∀ w, S w → (execOp a.eval oi).run P w = .ok (.value v) w) (h : wpAnyH P md ops Q S fuel (listed.setIfInBounds i true) (a.put oi.dst v) w)
    (hs : Region.noSelect ops = true := by kernel_rfl) (hf : Region.free md ops listed i = true := by kernel_rfl) (hr : (Region.ready md ops listed).contains i = true := by kernel_rfl)
    (hQ : ∀ c a w, Q (.panic c) (a.put oi.dst v) w → Q (.panic c) a w := by exact fun _ _ _ h => h) (hw : Region.wanted oi (yielded ops a.tmps) = true := by rfl) (hS : S w := by assumption) : wpAnyH P md ops Q S (fuel + 1) listed a w :=
  wpAnyH_take hi hs hf hr hQ (Or.inl ⟨hw, hv⟩) hS h
theorem sA1 {α : Type _} {xs : List α} {i : Nat} (h : i < xs.toArray.size) : xs.toArray[i] = xs[i]'(by simpa using h) := List.getElem_toArray h
theorem sA2 {α : Type _} (a : α) (l : List α) (i : Nat) (h : i + 1 < (a :: l).length) : (a :: l)[i + 1] = l[i]'(by simpa using h) := rfl
theorem sA3 {α : Type _} (a : α) (l : List α) (h : 0 < (a :: l).length) : (a :: l)[0] = a := rfl
theorem sA4 {α : Type _} (l : List α) (i : Nat) (a : α) : l.toArray.setIfInBounds i a = (l.set i a).toArray := List.setIfInBounds_toArray l i a
theorem sA5 {α : Type _} {x : α} {xs : List α} {a : α} : (x :: xs).set 0 a = a :: xs := rfl
theorem sA6 {α : Type _} {x : α} {xs : List α} {i : Nat} {a : α} : (x :: xs).set (i + 1) a = x :: xs.set i a := rfl
end Go.Proofs.YtjjfakokakamaaaGreat

namespace Go.Proofs.YtjjfakokakamaaaGreat.P
structure Alg (α S:Type) where
 zero:S
 add:S→S→S
 meas:α→S
 key:S→Int→Int
 Ok:S→Prop
 okz:Ok zero
 okm:∀ x,Ok (meas x)
 oka:∀ a b,Ok a→Ok b→Ok (add a b)
 assoc:∀ a b c,Ok a→Ok b→Ok c→add (add a b) c=add a (add b c)
 zadd:∀ a,Ok a→add zero a=a
 addz:∀ a,Ok a→add a zero=a
 mono:∀ a b k,Ok a→Ok b→key a k≤key (add a b) k
 keyz:∀ k,key zero k=0
namespace Alg
variable {α S:Type} (A:Alg α S)
def su (l:List α):S:=l.foldl (fun s x=>A.add s (A.meas x)) A.zero
theorem fold_ok (l:List α):∀ s,A.Ok s→A.Ok (l.foldl (fun s x=>A.add s (A.meas x)) s):=by
 induction l with
 | nil=>intro s h;exact h
 | cons x l ih=>intro s h;exact ih _ (A.oka _ _ h (A.okm x))
theorem ok (l:List α):A.Ok (A.su l):=A.fold_ok l _ A.okz
theorem fold_su (l:List α):∀ s,A.Ok s→l.foldl (fun s x=>A.add s (A.meas x)) s=A.add s (A.su l):=by
 induction l with
 | nil=>intro s h;simp [su,A.addz s h]
 | cons x l ih =>
   intro s h
   rw [List.foldl_cons,ih _ (A.oka _ _ h (A.okm x))]
   have e:A.su (x :: l)=A.add (A.meas x) (A.su l):=by
    unfold su
    rw [List.foldl_cons,A.zadd _ (A.okm x)]
    exact ih _ (A.okm x)
   rw [e,A.assoc _ _ _ h (A.okm x) (A.ok l)]
theorem su_nil:A.su []=A.zero:=rfl
theorem su_cons (x:α) (l:List α):A.su (x :: l)=A.add (A.meas x) (A.su l):=by
 unfold su
 rw [List.foldl_cons,A.zadd _ (A.okm x)]
 exact A.fold_su l _ (A.okm x)
theorem su_app (a b:List α):A.su (a ++ b)=A.add (A.su a) (A.su b):=by
 rw [su,List.foldl_append]
 exact A.fold_su b _ (A.ok a)
theorem su_snoc (a:List α) (x:α):A.su (a ++ [x])=A.add (A.su a) (A.meas x):=by
 rw [su_app,su_cons,su_nil,A.addz _ (A.okm x)]
def fnd (k n:Int) (s:S):List α→Nat
 | []=>if n≤A.key s k then 0 else 1
 | x :: m=>if n≤A.key s k then 0 else fnd k n (A.add s (A.meas x)) m + 1
theorem fnd_here (k n:Int) (s:S) (l:List α) (h:n≤A.key s k):A.fnd k n s l=0:=by
 cases l <;> simp [fnd,h]
theorem fnd_left (k n:Int) (R:List α) (L:List α):∀ s,A.Ok s→n≤A.key (A.add s (A.su L)) k→A.fnd k n s (L ++ R)=A.fnd k n s L:=by
 induction L with
 | nil=>intro s h1 h;rw [su_nil,A.addz s h1] at h;rw [fnd_here _ _ _ _ _ h,fnd_here _ _ _ _ _ h]
 | cons x L ih =>
   intro s h1 h
   rw [List.cons_append,fnd,fnd]
   by_cases hk:n≤A.key s k
   ·simp [hk]
   ·rw [if_neg hk,if_neg hk,ih _ (A.oka _ _ h1 (A.okm x)) (by rw [A.assoc _ _ _ h1 (A.okm x) (A.ok L),← su_cons];exact h)]
theorem fnd_right (k n:Int) (R:List α) (L:List α):∀ s,A.Ok s→A.key (A.add s (A.su L)) k < n→A.fnd k n s (L ++ R)=L.length + A.fnd k n (A.add s (A.su L)) R:=by
 induction L with
 | nil=>intro s h1 h;rw [su_nil,A.addz s h1];simp
 | cons x L ih =>
   intro s h1 h
   have h2:=A.mono s (A.su (x :: L)) k h1 (A.ok _)
   rw [List.cons_append,fnd,if_neg (by omega)]
   have e:A.add (A.add s (A.meas x)) (A.su L)=A.add s (A.su (x :: L)):=by rw [A.assoc _ _ _ h1 (A.okm x) (A.ok L),← su_cons]
   rw [ih _ (A.oka _ _ h1 (A.okm x)) (by rw [e];exact h),e,List.length_cons]
   omega
theorem fnd_le (k n:Int) (l:List α):∀ s,A.fnd k n s l≤l.length + 1:=by
 induction l with
 | nil=>intro s;rw [fnd];split <;> simp
 | cons x l ih=>intro s;rw [fnd];have:=ih (A.add s (A.meas x));split <;> simp <;> omega
theorem fnd_hit (k n:Int) (l:List α):∀ s,A.Ok s→A.fnd k n s l≤l.length→n≤A.key (A.add s (A.su (l.take (A.fnd k n s l)))) k:=by
 induction l with
 | nil =>
   intro s h1 h
   rw [fnd] at h ⊢
   by_cases hk:n≤A.key s k
   ·rw [if_pos hk];simp only [List.take_nil];rw [su_nil,A.addz s h1];exact hk
   ·rw [if_neg hk] at h;simp at h
 | cons x l ih =>
   intro s h1 h
   rw [fnd] at h ⊢
   by_cases hk:n≤A.key s k
   ·rw [if_pos hk];simp only [List.take_zero];rw [su_nil,A.addz s h1];exact hk
   ·rw [if_neg hk] at h ⊢
    rw [List.length_cons] at h
    have:=ih _ (A.oka _ _ h1 (A.okm x)) (by omega)
    rw [List.take_succ_cons,su_cons,← A.assoc _ _ _ h1 (A.okm x) (A.ok _)]
    exact this
theorem fnd_less (k n:Int) (l:List α):∀ s i,A.Ok s→i < A.fnd k n s l→A.key (A.add s (A.su (l.take i))) k < n:=by
 induction l with
 | nil =>
   intro s i h1 h
   rw [fnd] at h
   by_cases hk:n≤A.key s k
   ·rw [if_pos hk] at h;omega
   ·simp only [List.take_nil];rw [su_nil,A.addz s h1];omega
 | cons x l ih =>
   intro s i h1 h
   rw [fnd] at h
   by_cases hk:n≤A.key s k
   ·rw [if_pos hk] at h;omega
   ·rw [if_neg hk] at h
    cases i with
    | zero=>simp only [List.take_zero];rw [su_nil,A.addz s h1];omega
    | succ i =>
      have:=ih _ i (A.oka _ _ h1 (A.okm x)) (by omega)
      rw [List.take_succ_cons,su_cons,← A.assoc _ _ _ h1 (A.okm x) (A.ok _)]
      exact this
end Alg
structure Rs where
 a:Int
 s:Int
 b:Int
 lf:Bool
 cr:Bool
namespace Rs
def zero:Rs:=⟨0,0,0,false,false⟩
def mlt (x y:Rs):Int:=if x.cr=true∧y.lf=true then 1 else 0
def add (x y:Rs):Rs:=if x.a=0 then y else if y.a=0 then x else ⟨x.a + y.a,x.s + y.s,x.b + y.b - mlt x y,x.lf,y.cr⟩
def key (x:Rs) (k:Int):Int:=if k=0 then x.a else if k=1 then x.b else 0
structure Ok (x:Rs):Prop where
 a0:0≤x.a
 s0:0≤x.s
 b0:0≤x.b
 l1:x.lf=true→1≤x.b
 z:x.a=0→x=zero
theorem mlt_range (x y:Rs):0≤mlt x y∧mlt x y≤1∧(y.lf=false→mlt x y=0):=by
 unfold mlt
 split
 ·rename_i h;exact ⟨by omega,by omega,fun e=>by rw [e] at h;simp at h⟩
 ·exact ⟨by omega,by omega,fun _=>rfl⟩
theorem ok_zero:Ok zero:=⟨by decide,by decide,by decide,by decide,fun _=>rfl⟩
theorem mlt_le {x y:Rs} (hy:Ok y):mlt x y≤y.b:=by
 obtain ⟨h1,h2,h3⟩:=mlt_range x y
 cases h:y.lf with
 | true=>have:=hy.l1 h;omega
 | false=>have:=h3 h;have:=hy.b0;omega
theorem ok_add {x y:Rs} (hx:Ok x) (hy:Ok y):Ok (add x y):=by
 unfold add
 by_cases h1:x.a=0
 ·rw [if_pos h1];exact hy
 ·rw [if_neg h1]
  by_cases h2:y.a=0
  ·rw [if_pos h2];exact hx
  ·rw [if_neg h2]
   have:=mlt_le (x:=x) hy
   have a1:=hx.a0
   have a2:=hy.a0
   have a3:=hx.s0
   have a4:=hy.s0
   have a5:=hx.b0
   refine ⟨?_,?_,?_,?_,?_⟩ <;> simp only
   ·omega
   ·omega
   ·omega
   ·intro h;have:=hx.l1 h;omega
   ·intro h;omega
theorem zadd (x:Rs):add zero x=x:=by unfold add;rw [if_pos (show zero.a=0 from rfl)]
theorem addz (x:Rs) (hx:Ok x):add x zero=x:=by
 unfold add
 by_cases h1:x.a=0
 ·rw [if_pos h1];exact (hx.z h1).symm
 ·rw [if_neg h1,if_pos (show zero.a=0 from rfl)]
theorem assoc (x y z:Rs) (hx:Ok x) (hy:Ok y) (hz:Ok z):add (add x y) z=add x (add y z):=by
 have a1:=hx.a0
 have a2:=hy.a0
 have a3:=hz.a0
 by_cases h1:x.a=0
 ·rw [hx.z h1,zadd,zadd]
 by_cases h2:y.a=0
 ·rw [hy.z h2,zadd,addz x hx]
 by_cases h3:z.a=0
 ·rw [hz.z h3,addz _ (ok_add hx hy),addz y hy]
 have e1:add x y=⟨x.a + y.a,x.s + y.s,x.b + y.b - mlt x y,x.lf,y.cr⟩:=by unfold add;rw [if_neg h1,if_neg h2]
 have e2:add y z=⟨y.a + z.a,y.s + z.s,y.b + z.b - mlt y z,y.lf,z.cr⟩:=by unfold add;rw [if_neg h2,if_neg h3]
 rw [e1,e2]
 unfold add
 simp only
 rw [if_neg (by omega),if_neg h3,if_neg h1,if_neg (by omega)]
 have m1:mlt ⟨x.a + y.a,x.s + y.s,x.b + y.b - mlt x y,x.lf,y.cr⟩ z=mlt y z:=rfl
 have m2:mlt x ⟨y.a + z.a,y.s + z.s,y.b + z.b - mlt y z,y.lf,z.cr⟩=mlt x y:=rfl
 rw [m1,m2]
 simp only [Rs.mk.injEq]
 refine ⟨by omega,by omega,by omega,by simp,by simp⟩
theorem mono (x y:Rs) (k:Int) (hx:Ok x) (hy:Ok y):key x k≤key (add x y) k:=by
 have a1:=hx.a0
 have a2:=hy.a0
 have a5:=hx.b0
 have a6:=hy.b0
 have:=mlt_le (x:=x) hy
 unfold add
 by_cases h1:x.a=0
 ·rw [if_pos h1,hx.z h1]
  unfold key zero
  simp only
  split
  ·omega
  ·split <;> omega
 rw [if_neg h1]
 by_cases h2:y.a=0
 ·rw [if_pos h2];exact Int.le_refl _
 rw [if_neg h2]
 unfold key
 simp only
 split
 ·omega
 ·split <;> omega
end Rs
structure It where
 p:Option Addr
 n:Nat
 c:Nat
 pl:Int
 sp:Rs
 ok:Rs.Ok sp
def It.zero:It:=⟨none,0,0,0,Rs.zero,Rs.ok_zero⟩
def Rs.meas (x:It):Rs:=x.sp
def rA:Alg It Rs where
 zero:=Rs.zero
 add:=Rs.add
 meas:=Rs.meas
 key:=Rs.key
 Ok:=Rs.Ok
 okz:=Rs.ok_zero
 okm:=fun x=>x.ok
 oka:=fun _ _ ha hb=>Rs.ok_add ha hb
 assoc:=Rs.assoc
 zadd:=fun a _=>Rs.zadd a
 addz:=Rs.addz
 mono:=Rs.mono
 keyz:=fun k=>by unfold Rs.key Rs.zero;simp
def wt:List It→Nat
 | []=>0
 | x :: l=>1 + x.sp.a.toNat + x.sp.s.toNat + x.sp.b.toNat + wt l
theorem wt_nil:wt []=0:=rfl
theorem wt_cons (x:It) (l:List It):wt (x :: l)=1 + x.sp.a.toNat + x.sp.s.toNat + x.sp.b.toNat + wt l:=rfl
theorem wt_app (a b:List It):wt (a ++ b)=wt a + wt b:=by
 induction a with
 | nil=>simp [wt]
 | cons x a ih=>rw [List.cons_append,wt_cons,wt_cons,ih];omega
theorem wt_len (l:List It):l.length≤wt l:=by
 induction l with
 | nil=>simp
 | cons x l ih=>rw [wt_cons,List.length_cons];omega
theorem Rs.bound (l:List It):(rA.su l).a + (rA.su l).s + (rA.su l).b + l.length≤wt l:=by
 induction l with
 | nil=>simp [Alg.su_nil,wt,rA,Rs.zero]
 | cons x l ih =>
   rw [Alg.su_cons,wt_cons,List.length_cons]
   have hx:=x.ok
   have hl:=rA.ok l
   have e:rA.add (rA.meas x) (rA.su l)=Rs.add x.sp (rA.su l):=rfl
   rw [e]
   generalize rA.su l=q at *
   have b1:=hx.a0
   have b2:=hx.s0
   have b3:=hx.b0
   have c1:0≤q.a:=hl.a0
   have c2:0≤q.s:=hl.s0
   have c3:0≤q.b:=hl.b0
   have m:=Rs.mlt_range x.sp q
   unfold Rs.add
   by_cases h1:x.sp.a=0
   ·rw [if_pos h1];omega
   ·rw [if_neg h1]
    by_cases h2:q.a=0
    ·rw [if_pos h2];omega
    ·rw [if_neg h2];simp only;omega
end Go.Proofs.YtjjfakokakamaaaGreat.P

namespace Go.Proofs.YtjjfakokakamaaaGreat.P
structure Tr (α:Type) where
 kid:Option (Tr α × α × Tr α)
namespace Tr
variable {α:Type}
abbrev nil:Tr α:=⟨none⟩
abbrev node (l:Tr α) (x:α) (r:Tr α):Tr α:=⟨some (l,x,r)⟩
def list:Tr α→List α
 | ⟨none⟩=>[]
 | ⟨some (l,x,r)⟩=>l.list ++ x :: r.list
def ht:Tr α→Nat
 | ⟨none⟩=>0
 | ⟨some (l,_,r)⟩=>max l.ht r.ht + 1
def Bal:Tr α→Prop
 | ⟨none⟩=>True
 | ⟨some (l,_,r)⟩=>l.Bal∧r.Bal∧l.ht≤r.ht + 1∧r.ht≤l.ht + 1
theorem ind {motive:Tr α→Prop} (nil:motive .nil) (node:∀ l x r,motive l→motive r→motive (.node l x r)):∀ t,motive t
 | ⟨none⟩=>nil
 | ⟨some (l,x,r)⟩=>node l x r (ind nil node l) (ind nil node r)
theorem ht_le (t:Tr α):t.ht≤t.list.length:=by
 induction t using ind with
 | nil=>simp [ht]
 | node l x r hl hr=>simp [ht,list];omega
theorem ht_pos {t:Tr α} (h:0 < t.ht):∃ l x r,t=node l x r:=by
 cases t using ind with
 | nil=>simp [ht] at h
 | node l x r=>exact ⟨l,x,r,rfl⟩
end Tr
def dig (n:Nat):Nat:=if n=0 then 0 else Nat.log2 n + 1
theorem dig_zero:dig 0=0:=rfl
theorem dig_pos {n:Nat} (h:0 < n):dig n=dig (n / 2) + 1:=by
 unfold dig
 rw [if_neg (by omega),Nat.log2_def]
 by_cases h2:2≤n
 ·rw [if_pos h2,if_neg (by omega)]
 ·rw [if_neg h2,if_pos (by omega)]
theorem dig_mono {a b:Nat} (h:a≤b):dig a≤dig b:=by
 induction b using Nat.strongRecOn generalizing a with
 | _ b ih =>
   by_cases ha:a=0
   ·subst ha;simp [dig_zero]
   ·rw [dig_pos (by omega),dig_pos (n:=b) (by omega)]
    have:=ih (b / 2) (by omega) (a:=a / 2) (by omega)
    omega
theorem dig_step (n:Nat):dig (n + 1)≤dig n + 1:=by
 induction n using Nat.strongRecOn with
 | _ n ih =>
   by_cases h:n=0
   ·subst h;rw [dig_pos (by omega)];simp [dig_zero]
   ·rw [dig_pos (by omega),dig_pos (n:=n) (by omega)]
    by_cases he:(n + 1) / 2=n / 2
    ·rw [he];omega
    ·have:(n + 1) / 2=n / 2 + 1:=by omega
     rw [this]
     have:=ih (n / 2) (by omega)
     omega
structure Made {α:Type} (t:Tr α) (l:Tr α) (x:α) (r:Tr α):Prop where
 list:t.list=l.list ++ x :: r.list
 bal:l.Bal→r.Bal→l.ht≤r.ht + 2→r.ht≤l.ht + 2→t.Bal∧max l.ht r.ht≤t.ht∧t.ht≤max l.ht r.ht + 1∧(l.ht≤r.ht + 1→r.ht≤l.ht + 1→t.ht=max l.ht r.ht + 1)
theorem Made.branch {α:Type} {l r:Tr α} {x:α} (h1:l.ht≤r.ht + 1) (h2:r.ht≤l.ht + 1):Made (.node l x r) l x r :=
 ⟨rfl,fun hl hr _ _=>⟨⟨hl,hr,h1,h2⟩,by simp [Tr.ht]⟩⟩
theorem Made.right1 {α:Type} {ll lr r:Tr α} {y x:α} (h:r.ht + 1 < (Tr.node ll y lr).ht) (h1:lr.ht≤ll.ht):Made (.node ll y (.node lr x r)) (.node ll y lr) x r:=by
 refine ⟨by simp [Tr.list],fun ⟨bl,br,e1,e2⟩ hr h3 h4=>?_⟩
 simp only [Tr.ht,Tr.Bal] at *
 refine ⟨⟨bl,⟨br,hr,?_,?_⟩,?_,?_⟩,?_,?_,?_⟩ <;> omega
theorem Made.right2 {α:Type} {ll a b r:Tr α} {y z x:α} (h:r.ht + 1 < (Tr.node ll y (.node a z b)).ht) (h1:ll.ht < (Tr.node a z b).ht):Made (.node (.node ll y a) z (.node b x r)) (.node ll y (.node a z b)) x r:=by
 refine ⟨by simp [Tr.list],fun ⟨bl,⟨ba,bb,f1,f2⟩,e1,e2⟩ hr h3 h4=>?_⟩
 simp only [Tr.ht,Tr.Bal] at *
 refine ⟨⟨⟨bl,ba,?_,?_⟩,⟨bb,hr,?_,?_⟩,?_,?_⟩,?_,?_,?_⟩ <;> omega
theorem Made.left1 {α:Type} {l rl rr:Tr α} {y x:α} (h:l.ht + 1 < (Tr.node rl y rr).ht) (h1:rl.ht≤rr.ht):Made (.node (.node l x rl) y rr) l x (.node rl y rr):=by
 refine ⟨by simp [Tr.list],fun hl ⟨bl,br,e1,e2⟩ h3 h4=>?_⟩
 simp only [Tr.ht,Tr.Bal] at *
 refine ⟨⟨⟨hl,bl,?_,?_⟩,br,?_,?_⟩,?_,?_,?_⟩ <;> omega
theorem Made.left2 {α:Type} {l a b rr:Tr α} {y z x:α} (h:l.ht + 1 < (Tr.node (.node a z b) y rr).ht) (h1:rr.ht < (Tr.node a z b).ht):Made (.node (.node l x a) z (.node b y rr)) l x (.node (.node a z b) y rr):=by
 refine ⟨by simp [Tr.list],fun hl ⟨⟨ba,bb,f1,f2⟩,br,e1,e2⟩ h3 h4=>?_⟩
 simp only [Tr.ht,Tr.Bal] at *
 refine ⟨⟨⟨hl,ba,?_,?_⟩,⟨bb,br,?_,?_⟩,?_,?_⟩,?_,?_,?_⟩ <;> omega
structure Joined {α:Type} (t:Tr α) (l:Tr α) (x:α) (r:Tr α):Prop where
 list:t.list=l.list ++ x :: r.list
 bal:l.Bal→r.Bal→t.Bal∧max l.ht r.ht≤t.ht∧t.ht≤max l.ht r.ht + 1
theorem Joined.branch {α:Type} {l r:Tr α} {x:α} (h1:l.ht≤r.ht + 1) (h2:r.ht≤l.ht + 1):Joined (.node l x r) l x r :=
 ⟨rfl,fun hl hr=>⟨⟨hl,hr,h1,h2⟩,by simp [Tr.ht]⟩⟩
theorem Joined.downL {α:Type} {ll lr r j t:Tr α} {y x:α} (h:r.ht + 1 < (Tr.node ll y lr).ht) (hj:Joined j lr x r) (ht:Made t ll y j):Joined t (.node ll y lr) x r:=by
 refine ⟨by rw [ht.list,hj.list];simp [Tr.list],fun ⟨bl,br,e1,e2⟩ hr=>?_⟩
 obtain ⟨bj,j1,j2⟩:=hj.bal br hr
 simp only [Tr.ht] at h
 obtain ⟨bt,t1,t2,t3⟩:=ht.bal bl bj (by omega) (by omega)
 simp only [Tr.ht]
 refine ⟨bt,?_,?_⟩
 ·by_cases hh:j.ht≤ll.ht + 1∧ll.ht≤j.ht + 1
  ·have:=t3 hh.2 hh.1;omega
  ·omega
 ·omega
theorem Joined.downR {α:Type} {l rl rr j t:Tr α} {y x:α} (h:l.ht + 1 < (Tr.node rl y rr).ht) (hj:Joined j l x rl) (ht:Made t j y rr):Joined t l x (.node rl y rr):=by
 refine ⟨by rw [ht.list,hj.list];simp [Tr.list],fun hl ⟨bl,br,e1,e2⟩=>?_⟩
 obtain ⟨bj,j1,j2⟩:=hj.bal hl bl
 simp only [Tr.ht] at h
 obtain ⟨bt,t1,t2,t3⟩:=ht.bal bj br (by omega) (by omega)
 simp only [Tr.ht]
 refine ⟨bt,?_,?_⟩
 ·by_cases hh:j.ht≤rr.ht + 1∧rr.ht≤j.ht + 1
  ·have:=t3 hh.1 hh.2;omega
  ·omega
 ·omega
structure Rest {α:Type} (t:Tr α) (x:α) (n:Tr α):Prop where
 list:n.list=x :: t.list
 bal:n.Bal→t.Bal∧t.ht≤n.ht∧n.ht≤t.ht + 1
theorem Rest.here {α:Type} {r:Tr α} {x:α}:Rest r x (.node .nil x r) :=
 ⟨rfl,fun ⟨_,br,e1,e2⟩=>by simp only [Tr.ht] at *;exact ⟨br,by omega,by omega⟩⟩
theorem Rest.down {α:Type} {l r j t:Tr α} {y x:α} (hj:Rest j x l) (ht:Made t j y r):Rest t x (.node l y r):=by
 refine ⟨by rw [ht.list,Tr.list,hj.list];simp,fun ⟨bl,br,e1,e2⟩=>?_⟩
 obtain ⟨bj,j1,j2⟩:=hj.bal bl
 obtain ⟨bt,t1,t2,t3⟩:=ht.bal bj br (by omega) (by omega)
 simp only [Tr.ht]
 refine ⟨bt,?_,?_⟩
 ·by_cases hh:j.ht≤r.ht + 1∧r.ht≤j.ht + 1
  ·have:=t3 hh.1 hh.2;omega
  ·omega
 ·by_cases hh:j.ht≤r.ht + 1∧r.ht≤j.ht + 1
  ·have:=t3 hh.1 hh.2;omega
  ·omega
end Go.Proofs.YtjjfakokakamaaaGreat.P

namespace Go.Proofs.YtjjfakokakamaaaGreat.P
open Go.RowKit
def Hid (p:Prop):Prop:=p
theorem Hid.out {p:Prop} (h:Hid p):p:=h
theorem ret_int {k:IntKind} {a b:Int} (h:a=b):Ending.returned (.int k a)=.returned (.int k b):=by rw [h]
theorem ret_bool {a b:Bool} (h:a=b):Ending.returned (.bool a)=.returned (.bool b):=by rw [h]
theorem ext_trans {a b c:World} (h:Below a.heap.size a b) (k:Below b.heap.size b c):Below a.heap.size a c:=h.trans (k.mono h.size)
theorem ext_alloc {a b:World} (h:Below a.heap.size a b) (o:Obj):Below a.heap.size a (b.alloc o):=h.alloc h.size o
theorem C7.ext {w w':World} (hb:Below w.heap.size w w') {b o:Nat} (hlt:b < w.heap.size) {x:It} (h:(w.cell? ⟨b,o,none⟩=some (.slice x.p x.n x.c)∧w.cell? ⟨b,o + 1,none⟩=some (.int .i64 x.pl)∧w.cell? ⟨b,o + 2,none⟩=some (.int .i64 x.sp.a)∧w.cell? ⟨b,o + 3,none⟩=some (.int .i64 x.sp.s)∧w.cell? ⟨b,o + 4,none⟩=some (.int .i64 x.sp.b)∧w.cell? ⟨b,o + 5,none⟩=some (.bool x.sp.lf)∧w.cell? ⟨b,o + 6,none⟩=some (.bool x.sp.cr))):(w'.cell? ⟨b,o,none⟩=some (.slice x.p x.n x.c)∧w'.cell? ⟨b,o + 1,none⟩=some (.int .i64 x.pl)∧w'.cell? ⟨b,o + 2,none⟩=some (.int .i64 x.sp.a)∧w'.cell? ⟨b,o + 3,none⟩=some (.int .i64 x.sp.s)∧w'.cell? ⟨b,o + 4,none⟩=some (.int .i64 x.sp.b)∧w'.cell? ⟨b,o + 5,none⟩=some (.bool x.sp.lf)∧w'.cell? ⟨b,o + 6,none⟩=some (.bool x.sp.cr)) :=
 ⟨(hb.cell (p:=⟨b,o,none⟩) hlt).trans h.1,(hb.cell (p:=⟨b,o + 1,none⟩) hlt).trans h.2.1,(hb.cell (p:=⟨b,o + 2,none⟩) hlt).trans h.2.2.1,(hb.cell (p:=⟨b,o + 3,none⟩) hlt).trans h.2.2.2.1,(hb.cell (p:=⟨b,o + 4,none⟩) hlt).trans h.2.2.2.2.1,(hb.cell (p:=⟨b,o + 5,none⟩) hlt).trans h.2.2.2.2.2.1,(hb.cell (p:=⟨b,o + 6,none⟩) hlt).trans h.2.2.2.2.2.2⟩
theorem C5.ext {w w':World} (hb:Below w.heap.size w w') {b o:Nat} (hlt:b < w.heap.size) {x:Rs} (h:(w.cell? ⟨b,o,none⟩=some (.int .i64 x.a)∧w.cell? ⟨b,o + 1,none⟩=some (.int .i64 x.s)∧w.cell? ⟨b,o + 2,none⟩=some (.int .i64 x.b)∧w.cell? ⟨b,o + 3,none⟩=some (.bool x.lf)∧w.cell? ⟨b,o + 4,none⟩=some (.bool x.cr))):(w'.cell? ⟨b,o,none⟩=some (.int .i64 x.a)∧w'.cell? ⟨b,o + 1,none⟩=some (.int .i64 x.s)∧w'.cell? ⟨b,o + 2,none⟩=some (.int .i64 x.b)∧w'.cell? ⟨b,o + 3,none⟩=some (.bool x.lf)∧w'.cell? ⟨b,o + 4,none⟩=some (.bool x.cr)) :=
 ⟨(hb.cell (p:=⟨b,o,none⟩) hlt).trans h.1,(hb.cell (p:=⟨b,o + 1,none⟩) hlt).trans h.2.1,(hb.cell (p:=⟨b,o + 2,none⟩) hlt).trans h.2.2.1,(hb.cell (p:=⟨b,o + 3,none⟩) hlt).trans h.2.2.2.1,(hb.cell (p:=⟨b,o + 4,none⟩) hlt).trans h.2.2.2.2⟩
def RdR (w:World) (v:Value) (xs:List It):Prop :=
 ∃ ao cap,v=.slice ao xs.length cap∧xs.length≤cap∧cap≤maxLen∧(ao=none→cap=0) ∧
   (xs≠[]→∃ b off,ao=some ⟨b,off,none⟩∧b < w.heap.size∧∀ i,i < xs.length→(w.cell? ⟨b,off + i * 7,none⟩=some (.slice (xs[i]?.getD It.zero).p (xs[i]?.getD It.zero).n (xs[i]?.getD It.zero).c)∧w.cell? ⟨b,off + i * 7 + 1,none⟩=some (.int .i64 (xs[i]?.getD It.zero).pl)∧w.cell? ⟨b,off + i * 7 + 2,none⟩=some (.int .i64 (xs[i]?.getD It.zero).sp.a)∧w.cell? ⟨b,off + i * 7 + 3,none⟩=some (.int .i64 (xs[i]?.getD It.zero).sp.s)∧w.cell? ⟨b,off + i * 7 + 4,none⟩=some (.int .i64 (xs[i]?.getD It.zero).sp.b)∧w.cell? ⟨b,off + i * 7 + 5,none⟩=some (.bool (xs[i]?.getD It.zero).sp.lf)∧w.cell? ⟨b,off + i * 7 + 6,none⟩=some (.bool (xs[i]?.getD It.zero).sp.cr))∧True)
theorem RdR.ext {w w':World} {v:Value} {xs:List It} (h:RdR w v xs) (hb:Below w.heap.size w w'):RdR w' v xs:=by
 obtain ⟨ao,cap,hv,h1,h2,h0,h3⟩:=h
 refine ⟨ao,cap,hv,h1,h2,h0,fun hn=>?_⟩
 obtain ⟨b,off,ha,hlt,hc⟩:=h3 hn
 exact ⟨b,off,ha,Nat.lt_of_lt_of_le hlt hb.size,fun i hi=>⟨C7.ext hb hlt (hc i hi).1,trivial⟩⟩
theorem RdR.nil (w:World):RdR w (.slice none 0 0) []:=⟨none,0,rfl,Nat.le_refl _,by simp [maxLen],fun _=>rfl,fun h=>absurd rfl h⟩
theorem RdR.len {w:World} {v:Value} {xs:List It} (h:RdR w v xs):xs.length≤9223372036854775807:=by
 obtain ⟨ao,cap,hv,h1,h2,_⟩:=h
 unfold maxLen at h2
 omega
def Blk (T:TypeId) (w:World) (g:Nat) (s:Rs):Prop:=w.heap[g]?=some (.cells #[.int .i64 s.a,.int .i64 s.s,.int .i64 s.b,.bool s.lf,.bool s.cr] T (0,0))
theorem Blk.lt {T:TypeId} {w:World} {g:Nat} {s:Rs} (h:Blk T w g s):g < w.heap.size:=(Array.getElem?_eq_some_iff.1 h).1
theorem Blk.ext {T:TypeId} {w w':World} {g:Nat} {s:Rs} (h:Blk T w g s) (hb:Below w.heap.size w w'):Blk T w' g s:=by unfold Blk;rw [hb.block g h.lt];exact h
theorem Blk.cells {T:TypeId} {w:World} {g:Nat} {s:Rs} (h:Blk T w g s):(w.cell? ⟨g,0,none⟩=some (.int .i64 s.a)∧w.cell? ⟨g,1,none⟩=some (.int .i64 s.s)∧w.cell? ⟨g,2,none⟩=some (.int .i64 s.b)∧w.cell? ⟨g,3,none⟩=some (.bool s.lf)∧w.cell? ⟨g,4,none⟩=some (.bool s.cr))∧True∧True∧True∧(∀ i,w.frozen? ⟨g,i,none⟩=false):=by
 refine ⟨?_,trivial,trivial,trivial,?_⟩
 ·refine ⟨?_,?_,?_,?_,?_⟩ <;> (rw [cell_of_row w g _ _ _ _ h];rfl)
 ·intro i;unfold Blk at h;simp [World.frozen?,h]
theorem Blk.new (T:TypeId) (w:World) (s:Rs):Blk T (w.alloc (.cells #[.int .i64 s.a,.int .i64 s.s,.int .i64 s.b,.bool s.lf,.bool s.cr] T)) w.heap.size s:=heap_alloc_new _ _
theorem set1 {T:TypeId} {w:World} {g:Nat} {cs:Array Value} (hg:w.heap[g]?=some (.cells cs T (0,0))) (i:Nat) (v:Value):(w.setCell ⟨g,i,none⟩ v).heap[g]?=some (.cells (cs.setIfInBounds i v) T (0,0))∧w.grownBy (w.setCell ⟨g,i,none⟩ v) (some g):=by
 rw [setCell_eq_setRow w g i _ _ _ _ hg]
 exact ⟨setRow_heap w g _ _ T (0,0) hg,⟨rfl,rfl,rfl,by simp [World.setRow],fun j _ hk=>setRow_other w g j _ (by intro e;subst e;exact hk rfl)⟩⟩
theorem grown_trans {a b c:World} {k:Nat} (h:a.grownBy b (some k)) (h':b.grownBy c (some k)):a.grownBy c (some k) :=
 ⟨h'.os.trans h.os,h'.tape.trans h.tape,h'.output.trans h.output,Nat.le_trans h.size h'.size,fun j hj hk=>(h'.block j (Nat.lt_of_lt_of_le hj h.size) hk).trans (h.block j hj hk)⟩
theorem below_put {B:Nat} {w wr w':World} {g:Nat} (hb:Below B w wr) (hB:B≤wr.heap.size) (hg:wr.grownBy w' (some g)) (hk:B≤g):Below B w w' :=
 hb.grown hg hB (fun k e=>by cases e;exact hk)
theorem Blk.put {T:TypeId} {w:World} {g:Nat} {s:Rs} (h:Blk T w g s) (q:Rs):Blk T (((((w.setCell ⟨g,0,none⟩ (.int .i64 q.a)).setCell ⟨g,1,none⟩ (.int .i64 q.s)).setCell ⟨g,2,none⟩ (.int .i64 q.b)).setCell ⟨g,3,none⟩ (.bool q.lf)).setCell ⟨g,4,none⟩ (.bool q.cr)) g q∧w.grownBy (((((w.setCell ⟨g,0,none⟩ (.int .i64 q.a)).setCell ⟨g,1,none⟩ (.int .i64 q.s)).setCell ⟨g,2,none⟩ (.int .i64 q.b)).setCell ⟨g,3,none⟩ (.bool q.lf)).setCell ⟨g,4,none⟩ (.bool q.cr)) (some g):=by
 obtain ⟨h1,g1⟩:=set1 h 0 (.int .i64 q.a)
 obtain ⟨h2,g2⟩:=set1 h1 1 (.int .i64 q.s)
 obtain ⟨h3,g3⟩:=set1 h2 2 (.int .i64 q.b)
 obtain ⟨h4,g4⟩:=set1 h3 3 (.bool q.lf)
 obtain ⟨h5,g5⟩:=set1 h4 4 (.bool q.cr)
 exact ⟨h5,grown_trans (grown_trans (grown_trans (grown_trans g1 g2) g3) g4) g5⟩
theorem Blk.other {T:TypeId} {w w':World} {g k:Nat} {s:Rs} (h:Blk T w g s) (hb:w.grownBy w' (some k)) (hk:g≠k):Blk T w' g s:=by unfold Blk;rw [hb.block g h.lt (by simpa using hk)];exact h
theorem hidIt {p:Prop} (h:p):Hid p:=h
end Go.Proofs.YtjjfakokakamaaaGreat.P

namespace Go.Proofs.YtjjfakokakamaaaGreat.P
open Go.RowKit
def pcs (x:It):List Value:=[.slice x.p x.n x.c,.int .i64 x.pl,.int .i64 x.sp.a,.int .i64 x.sp.s,.int .i64 x.sp.b,.bool x.sp.lf,.bool x.sp.cr]
def flat (xs:List It):List Value:=xs.flatMap pcs
theorem flat_cons (x:It) (xs:List It):flat (x :: xs)=pcs x ++ flat xs:=rfl
theorem flat_len (xs:List It):(flat xs).length=xs.length * 7:=by
 induction xs with
 | nil=>rfl
 | cons x xs ih=>rw [flat_cons,List.length_append,ih,List.length_cons];show 7 + _=_;omega
theorem flat_app (xs ys:List It):flat (xs ++ ys)=flat xs ++ flat ys:=by simp [flat]
theorem flat_one (xs:List It):∀ u ∈ flat xs,u.oneCell'=true:=by
 intro u hu
 simp only [flat,List.mem_flatMap,pcs,List.mem_cons,List.not_mem_nil,or_false] at hu
 obtain ⟨x,_,rfl | rfl | rfl | rfl | rfl | rfl | rfl⟩:=hu <;> rfl
theorem flat_at (xs:List It):∀ i,i < xs.length→∀ r,r < 7→(flat xs)[i * 7 + r]?=(pcs (xs[i]?.getD It.zero))[r]?:=by
 induction xs with
 | nil=>intro i h;simp at h
 | cons x xs ih =>
   intro i h r hr
   rw [flat_cons]
   cases i with
   | zero=>rw [List.getElem?_append_left (by show 0 * 7 + r < 7;omega)];simp
   | succ i =>
     rw [List.getElem?_append_right (by show 7≤_;omega),show (i + 1) * 7 + r - (pcs x).length=i * 7 + r by show _ - 7=_;omega,ih i (by simpa using h) r hr]
     simp
def OwnR (w:World) (base:Nat) (e:TypeId) (v:Value) (xs:List It):Prop:=w.ownsRow base e 7 v xs.length (flat xs)
theorem OwnR.rd {w:World} {base:Nat} {e:TypeId} {v:Value} {xs:List It} (h:OwnR w base e v xs):RdR w v xs:=by
 obtain ⟨h1,h2⟩:=h
 rcases h2 with ⟨rfl,hn⟩ | ⟨g,cap,cur,rfl,hb,hg,hn,hc,hs,ht⟩
 ·rw [List.length_eq_zero_iff] at hn;subst hn;exact RdR.nil w
 ·refine ⟨_,cap,rfl,hn,hc,(fun h=>by cases h),fun _=>⟨g,0,rfl,(Array.getElem?_eq_some_iff.1 hg).1,fun i hi=>?_⟩⟩
  have h4:∀ r,r < 7→w.cell? ⟨g,0 + i * 7 + r,none⟩=(pcs (xs[i]?.getD It.zero))[r]?:=by
   intro r hr
   have h3:=flat_at xs i hi r hr
   rw [← ht] at h3
   rw [List.getElem?_take,if_pos (by omega)] at h3
   rw [cell_of_row w g _ cur e (0,0) hg,Nat.zero_add]
   simpa using h3
  exact ⟨⟨h4 0 (by omega),h4 1 (by omega),h4 2 (by omega),h4 3 (by omega),h4 4 (by omega),h4 5 (by omega),h4 6 (by omega)⟩,trivial⟩
theorem OwnR.ext {w w':World} {base:Nat} {e:TypeId} {v:Value} {xs:List It} (h:OwnR w base e v xs) (hb:Below w.heap.size w w'):OwnR w' base e v xs :=
 World.ownsRow.kept (row:=none) h ⟨hb.os,hb.tape,hb.output,hb.size,fun k hk _=>hb.block k hk⟩ (by cases v.ownBlock <;> simp)
theorem OwnR.le {w:World} {base base':Nat} {e:TypeId} {v:Value} {xs:List It} (h:OwnR w base e v xs) (hb:base'≤base):OwnR w base' e v xs:=by
 obtain ⟨h1,h2⟩:=h
 refine ⟨h1,?_⟩
 rcases h2 with h2 | ⟨g,cap,cur,hv,hg,r⟩
 ·exact .inl h2
 ·exact .inr ⟨g,cap,cur,hv,Nat.le_trans hb hg,r⟩
theorem OwnR.nil (w:World) (base:Nat) (e:TypeId):OwnR w base e (.slice none 0 0) []:=World.ownsRow_nil _ _ _ _
theorem OwnR.below {w wr w':World} {e:TypeId} {v:Value} {xs:List It} (hb:Below w.heap.size w wr) (hown:OwnR wr w.heap.size e v xs) (hg:wr.grownBy w' v.ownBlock):Below w.heap.size w w' :=
 hb.grown hg (by have:=hb.size;omega) (fun k hk=>(World.ownsRow.lt hown k hk).1)
theorem OwnR.form1 {w:World} {base:Nat} {e:TypeId} {v:Value} {xs:List It} (h:OwnR w base e v xs):∃ ao cap,v=.slice ao xs.length cap:=by
 obtain ⟨ao,cap,hv,_⟩:=h.rd
 exact ⟨ao,cap,hv⟩
theorem RdR.cells {w:World} {b off:Nat} {ys:List It} (h:∀ i,i < ys.length→(w.cell? ⟨b,off + i * 7,none⟩=some (.slice (ys[i]?.getD It.zero).p (ys[i]?.getD It.zero).n (ys[i]?.getD It.zero).c)∧w.cell? ⟨b,off + i * 7 + 1,none⟩=some (.int .i64 (ys[i]?.getD It.zero).pl)∧w.cell? ⟨b,off + i * 7 + 2,none⟩=some (.int .i64 (ys[i]?.getD It.zero).sp.a)∧w.cell? ⟨b,off + i * 7 + 3,none⟩=some (.int .i64 (ys[i]?.getD It.zero).sp.s)∧w.cell? ⟨b,off + i * 7 + 4,none⟩=some (.int .i64 (ys[i]?.getD It.zero).sp.b)∧w.cell? ⟨b,off + i * 7 + 5,none⟩=some (.bool (ys[i]?.getD It.zero).sp.lf)∧w.cell? ⟨b,off + i * 7 + 6,none⟩=some (.bool (ys[i]?.getD It.zero).sp.cr))∧True) :
  ∀ j u,(flat ys)[j]?=some u→w.cell? ((⟨b,off,none⟩:Addr).add j)=some u:=by
 intro j u hj
 have hl:j / 7 < ys.length:=by
  have:=(List.getElem?_eq_some_iff.1 hj).1
  rw [flat_len] at this
  omega
 have hf:=flat_at ys (j / 7) hl (j % 7) (Nat.mod_lt _ (by omega))
 rw [show j / 7 * 7 + j % 7=j by omega,hj] at hf
 obtain ⟨⟨c0,c1,c2,c3,c4,c5,c6⟩,_⟩:=h (j / 7) hl
 rw [Addr.add_lit,show off + j=off + j / 7 * 7 + j % 7 by omega,hf]
 have hr:j % 7 < 7:=Nat.mod_lt _ (by omega)
 generalize j % 7=r at *
 match r,hr with
 | 0,_=>exact c0
 | 1,_=>exact c1
 | 2,_=>exact c2
 | 3,_=>exact c3
 | 4,_=>exact c4
 | 5,_=>exact c5
 | 6,_=>exact c6
section
variable {P:Program} {w:World}
end
theorem Tryz.info_piece:(Tryz.prog.info? 122).map (fun i=>(i.zero,i.size,i.bytes))=some (some (.agg #[.slice It.zero.p It.zero.n It.zero.c,.int .i64 It.zero.pl,.int .i64 It.zero.sp.a,.int .i64 It.zero.sp.s,.int .i64 It.zero.sp.b,.bool It.zero.sp.lf,.bool It.zero.sp.cr]),7,64):=by kernel_rfl
end Go.Proofs.YtjjfakokakamaaaGreat.P

namespace Go.Proofs.YtjjfakokakamaaaGreat.P
open Go.RowKit
theorem m_meas (p : Option Addr) (n c : Nat) (l a s b : Int) (f r : Bool) (w : World) : (method 336 122 (.agg #[.slice p n c, .int .i64 l, .int .i64 a, .int .i64 s, .int .i64 b, .bool f, .bool r]) "Measure").run Tryz.prog w = .ok (171, .agg #[.slice p n c, .int .i64 l, .int .i64 a, .int .i64 s, .int .i64 b, .bool f, .bool r]) w := by kernel_rfl
theorem m_add (a s b : Int) (f r : Bool) (w : World) : (method 336 119 (.agg #[.int .i64 a, .int .i64 s, .int .i64 b, .bool f, .bool r]) "Add").run Tryz.prog w = .ok (69, .agg #[.int .i64 a, .int .i64 s, .int .i64 b, .bool f, .bool r]) w := by kernel_rfl
theorem m_key (a s b : Int) (f r : Bool) (w : World) : (method 336 119 (.agg #[.int .i64 a, .int .i64 s, .int .i64 b, .bool f, .bool r]) "Key").run Tryz.prog w = .ok (170, .agg #[.int .i64 a, .int .i64 s, .int .i64 b, .bool f, .bool r]) w := by kernel_rfl
theorem n_meas (p : Option Addr) (n c : Nat) (l a s b : Int) (f r : Bool) (w : World) : (nilAhead 336 122 (.agg #[.slice p n c, .int .i64 l, .int .i64 a, .int .i64 s, .int .i64 b, .bool f, .bool r]) "Measure").run Tryz.prog w = .ok (some false) w := by kernel_rfl
theorem n_add (a s b : Int) (f r : Bool) (w : World) : (nilAhead 336 119 (.agg #[.int .i64 a, .int .i64 s, .int .i64 b, .bool f, .bool r]) "Add").run Tryz.prog w = .ok (some false) w := by kernel_rfl
theorem n_key (a s b : Int) (f r : Bool) (w : World) : (nilAhead 336 119 (.agg #[.int .i64 a, .int .i64 s, .int .i64 b, .bool f, .bool r]) "Key").run Tryz.prog w = .ok (some false) w := by kernel_rfl
theorem Measure_any (x:It) (w:World):Calls Tryz.prog 171 #[.agg #[.slice x.p x.n x.c,.int .i64 x.pl,.int .i64 x.sp.a,.int .i64 x.sp.s,.int .i64 x.sp.b,.bool x.sp.lf,.bool x.sp.cr]] w fun e w'=>∃ s,Hid (s=Rs.meas x)∧e=.returned (.agg #[.int .i64 s.a,.int .i64 s.s,.int .i64 s.b,.bool s.lf,.bool s.cr])∧Below w.heap.size w w':=by
 obtain ⟨p,n,c,pl,⟨a,s,b,f,r⟩,ok⟩:=x
 simp only
 have HE:Hid ((⟨a,s,b,f,r⟩:Rs)=Rs.meas ⟨p,n,c,pl,⟨a,s,b,f,r⟩,ok⟩):=rfl
 go_enter Tryz.func171,Tryz.ntmps171
 go_wp2_with fail
 exact bodyPost_ret (v:=.agg #[.int .i64 a,.int .i64 s,.int .i64 b,.bool f,.bool r]) (by simp [results,Tryz.results171,go_sem]) rfl ⟨_,HE,rfl,by repeat (first | exact Below.refl _ _ | refine ext_alloc ?_ _)⟩
theorem melt_any (x y:Rs) (w:World):Calls Tryz.prog 70 #[.agg #[.int .i64 x.a,.int .i64 x.s,.int .i64 x.b,.bool x.lf,.bool x.cr],.agg #[.int .i64 y.a,.int .i64 y.s,.int .i64 y.b,.bool y.lf,.bool y.cr]] w fun e w'=>e=.returned (.bool (x.cr && y.lf))∧Below w.heap.size w w':=by
 obtain ⟨a1,s1,b1,f1,r1⟩:=x
 obtain ⟨a2,s2,b2,f2,r2⟩:=y
 simp only
 cases r1 <;> cases f2
 all_goals
  go_enter Tryz.func70,Tryz.ntmps70
  go_wp2_with fail
  go_ret
  exact ⟨rfl,by repeat (first | exact Below.refl _ _ | refine ext_alloc ?_ _)⟩
set_option maxRecDepth 100000 in
theorem Add_any (x y:Rs) (w:World) (h0:0≤x.a) (h1:0≤y.a) (h2:0≤x.s) (h3:0≤y.s) (h4:0≤x.b) (h5:0≤y.b) (h6:x.a + y.a≤9223372036854775807) (h7:x.s + y.s≤9223372036854775807) (h8:x.b + y.b≤9223372036854775807) :
  Calls Tryz.prog 69 #[.agg #[.int .i64 x.a,.int .i64 x.s,.int .i64 x.b,.bool x.lf,.bool x.cr],.agg #[.int .i64 y.a,.int .i64 y.s,.int .i64 y.b,.bool y.lf,.bool y.cr]] w fun e w'=>∃ s,Hid (s=Rs.add x y)∧e=.returned (.agg #[.int .i64 s.a,.int .i64 s.s,.int .i64 s.b,.bool s.lf,.bool s.cr])∧Below w.heap.size w w':=by
 have MT:Hid (∀ w',Calls Tryz.prog 70 #[.agg #[.int .i64 x.a,.int .i64 x.s,.int .i64 x.b,.bool x.lf,.bool x.cr],.agg #[.int .i64 y.a,.int .i64 y.s,.int .i64 y.b,.bool y.lf,.bool y.cr]] w' fun e w''=>e=.returned (.bool (x.cr && y.lf))∧Below w'.heap.size w' w''):=fun w'=>melt_any x y w'
 obtain ⟨a1,s1,b1,f1,r1⟩:=x
 obtain ⟨a2,s2,b2,f2,r2⟩:=y
 simp only at *
 by_cases e1:a1=0
 ·have HE:Hid ((⟨a2,s2,b2,f2,r2⟩:Rs)=Rs.add ⟨a1,s1,b1,f1,r1⟩ ⟨a2,s2,b2,f2,r2⟩):=by simp [Hid,Rs.add,e1]
  clear MT
  go_enter Tryz.func69,Tryz.ntmps69
  go_wp2_with fail
  exact bodyPost_ret (v:=.agg #[.int .i64 a2,.int .i64 s2,.int .i64 b2,.bool f2,.bool r2]) (by simp [results,Tryz.results69,go_sem]) rfl ⟨_,HE,rfl,by repeat (first | exact Below.refl _ _ | refine ext_alloc ?_ _)⟩
 by_cases e2:a2=0
 ·have HE:Hid ((⟨a1,s1,b1,f1,r1⟩:Rs)=Rs.add ⟨a1,s1,b1,f1,r1⟩ ⟨a2,s2,b2,f2,r2⟩):=by simp [Hid,Rs.add,e1,e2]
  clear MT
  go_enter Tryz.func69,Tryz.ntmps69
  go_wp2_with fail
  exact bodyPost_ret (v:=.agg #[.int .i64 a1,.int .i64 s1,.int .i64 b1,.bool f1,.bool r1]) (by simp [results,Tryz.results69,go_sem]) rfl ⟨_,HE,rfl,by repeat (first | exact Below.refl _ _ | refine ext_alloc ?_ _)⟩
 obtain ⟨w4,hw4⟩:∃ w4,w4=(((w.alloc (.cells #[.int .i64 a1,.int .i64 s1,.int .i64 b1,.bool f1,.bool r1] 119)).alloc (.cells #[.int .i64 a2,.int .i64 s2,.int .i64 b2,.bool f2,.bool r2] 119)).alloc (.cells #[.int .i64 0,.int .i64 0,.int .i64 0,.bool false,.bool false] 119)).alloc (.cells #[.int .i64 (a1 + a2),.int .i64 (s1 + s2),.int .i64 (b1 + b2),.bool f1,.bool r2] 119):=⟨_,rfl⟩
 have HB4:Hid (Below w.heap.size w w4):=by unfold Hid;rw [hw4];repeat (first | exact Below.refl _ _ | refine ext_alloc ?_ _)
 have K1:Hid (Blk 119 w4 (w.heap.size + 3) ⟨a1 + a2,s1 + s2,b1 + b2,f1,r2⟩):=by
  unfold Hid Blk
  rw [hw4]
  have e:w.heap.size + 3=(((w.alloc (.cells #[.int .i64 a1,.int .i64 s1,.int .i64 b1,.bool f1,.bool r1] 119)).alloc (.cells #[.int .i64 a2,.int .i64 s2,.int .i64 b2,.bool f2,.bool r2] 119)).alloc (.cells #[.int .i64 0,.int .i64 0,.int .i64 0,.bool false,.bool false] 119)).heap.size:=by simp
  rw [e];exact heap_alloc_new _ _
 have K2:Hid (Blk 119 w4 (w.heap.size + 2) Rs.zero):=by
  unfold Hid
  rw [hw4]
  have e:w.heap.size + 2=((w.alloc (.cells #[.int .i64 a1,.int .i64 s1,.int .i64 b1,.bool f1,.bool r1] 119)).alloc (.cells #[.int .i64 a2,.int .i64 s2,.int .i64 b2,.bool f2,.bool r2] 119)).heap.size:=by simp
  rw [e]
  exact (Blk.new 119 _ Rs.zero).ext (ext_alloc (Below.refl _ _) _)
 have EA:Hid (∀ m:Int,(if r1=true∧f2=true then (1:Int) else 0)=m→(⟨a1 + a2,s1 + s2,b1 + b2 - m,f1,r2⟩:Rs)=Rs.add ⟨a1,s1,b1,f1,r1⟩ ⟨a2,s2,b2,f2,r2⟩):=fun m hm=>by unfold Rs.add Rs.mlt;simp only;rw [if_neg e1,if_neg e2,hm]
 go_enter Tryz.func69,Tryz.ntmps69
 go_wp2_with fail
 rw [← hw4]
 clear hw4
 refine (MT.out w4).mono ?_
 rintro e w5 ⟨rfl,hb5⟩
 have HB5:=hidIt (ext_trans HB4.out hb5)
 have G1:=hidIt (K1.out.ext hb5)
 have G2:=hidIt (K2.out.ext hb5)
 clear hb5 MT K1 K2 HB4
 obtain ⟨c0,_,_,_,cf⟩:=G1.out.cells
 obtain ⟨d0,_,_,_,df⟩:=G2.out.cells
 have l1:=G1.out.lt
 have l2:=G2.out.lt
 simp only at c0 d0
 cases hr:r1 <;> cases hf:f2
 all_goals
  subst hr
  subst hf
 case true.true =>
  have HE:=hidIt (EA.out 1 (by decide))
  clear EA
  go_wp2_with fail
  obtain ⟨n1,n2⟩:=set1 G1.out 2 (.int .i64 (b1 + b2 - 1))
  obtain ⟨p1,p2⟩:=(G2.out.other n2 (by omega)).put ⟨a1 + a2,s1 + s2,b1 + b2 - 1,f1,r2⟩
  have q1:(w5.setCell ⟨w.heap.size + 3,2,none⟩ (.int .i64 (b1 + b2 - 1))).heap.size=w5.heap.size:=by simp
  exact bodyPost_ret (v:=.agg #[.int .i64 (a1 + a2),.int .i64 (s1 + s2),.int .i64 (b1 + b2 - 1),.bool f1,.bool r2]) (by simp [results,Tryz.results69,go_sem,d0]) rfl ⟨_,HE,rfl,below_put (below_put HB5.out HB5.out.size n2 (by omega)) (by rw [q1];exact HB5.out.size) p2 (by omega)⟩
 all_goals
  have HE:=hidIt (EA.out 0 (by decide))
  rw [Int.sub_zero] at HE
  clear EA
  go_wp2_with fail
  obtain ⟨p1,p2⟩:=G2.out.put ⟨a1 + a2,s1 + s2,b1 + b2,f1,r2⟩
  exact bodyPost_ret (v:=.agg #[.int .i64 (a1 + a2),.int .i64 (s1 + s2),.int .i64 (b1 + b2),.bool f1,.bool r2]) (by simp [results,Tryz.results69,go_sem,d0]) rfl ⟨_,HE,rfl,below_put HB5.out HB5.out.size p2 (by omega)⟩
theorem Key_any (x:Rs) (k:Int) (w:World):Calls Tryz.prog 170 #[.agg #[.int .i64 x.a,.int .i64 x.s,.int .i64 x.b,.bool x.lf,.bool x.cr],.int .i64 k] w fun e w'=>e=.returned (.int .i64 (Rs.key x k))∧Below w.heap.size w w':=by
 obtain ⟨a1,a2,a3,a4,a5⟩:=x
 by_cases e1:k=0
 ·have HE:Hid (Rs.key ⟨a1,a2,a3,a4,a5⟩ k=a1):=by simp [Hid,Rs.key,e1]
  go_enter Tryz.func170,Tryz.ntmps170
  go_wp2_with fail
  go_ret
  exact ⟨ret_int HE.out.symm,ext_alloc (Below.refl _ _) _⟩
 by_cases e2:k=1
 ·have HE:Hid (Rs.key ⟨a1,a2,a3,a4,a5⟩ k=a3):=by simp [Hid,Rs.key,e2]
  go_enter Tryz.func170,Tryz.ntmps170
  go_wp2_with fail
  go_ret
  exact ⟨ret_int HE.out.symm,ext_alloc (Below.refl _ _) _⟩
 ·have HE:Hid (Rs.key ⟨a1,a2,a3,a4,a5⟩ k=0):=by simp [Hid,Rs.key,e1,e2]
  go_enter Tryz.func170,Tryz.ntmps170
  go_wp2_with fail
  go_ret
  exact ⟨ret_int HE.out.symm,ext_alloc (Below.refl _ _) _⟩
theorem add_su (a b:List It) (s t:Rs) (w:World) (hs:Hid (s=rA.su a)) (ht:Hid (t=rA.su b)) (hw:wt (a ++ b)≤4611686018427387904) :
  Calls Tryz.prog 69 #[.agg #[.int .i64 s.a,.int .i64 s.s,.int .i64 s.b,.bool s.lf,.bool s.cr],.agg #[.int .i64 t.a,.int .i64 t.s,.int .i64 t.b,.bool t.lf,.bool t.cr]] w fun e w'=>∃ q,Hid (q=rA.su (a ++ b))∧e=.returned (.agg #[.int .i64 q.a,.int .i64 q.s,.int .i64 q.b,.bool q.lf,.bool q.cr])∧Below w.heap.size w w':=by
 have h1:=Rs.bound a
 have h2:=Rs.bound b
 have k1:Rs.Ok (rA.su a):=rA.ok a
 have k2:Rs.Ok (rA.su b):=rA.ok b
 rw [wt_app] at hw
 rw [← hs.out] at h1 k1
 rw [← ht.out] at h2 k2
 obtain ⟨m1,m2,m3,_,_⟩:=k1
 obtain ⟨n1,n2,n3,_,_⟩:=k2
 refine (Add_any s t w m1 n1 m2 n2 m3 n3 (by omega) (by omega) (by omega)).mono ?_
 rintro e w' ⟨q,hq,he,hb⟩
 refine ⟨q,?_,he,hb⟩
 unfold Hid
 rw [hq.out,hs.out,ht.out,Alg.su_app]
 rfl
theorem su_one (x:It):rA.su [x]=Rs.meas x:=by rw [Alg.su_cons,Alg.su_nil];exact rA.addz _ (rA.okm x)
end Go.Proofs.YtjjfakokakamaaaGreat.P

namespace Go.Proofs.YtjjfakokakamaaaGreat.Cx
def isSc (a:Int):Bool:=(decide (0≤a) && decide (a < 55296)) || (decide (57343 < a) && decide (a≤1114111))
def fits (enc a:Int):Bool :=
 if enc=1 then isSc a || (decide (a≤-129) && decide (-256≤a))
 else if enc=2∨enc=3 then decide (-256≤a) && decide (a≤1114111)
 else if enc=4 then decide (0≤a) && decide (a≤255)
 else false
def put8 (a:Int):List Int :=
 if a < 128 then [a] else if a < 2048 then [192 + a / 64,128 + a % 64]
 else if a < 65536 then [224 + a / 4096,128 + a / 64 % 64,128 + a % 64]
 else [240 + a / 262144,128 + a / 4096 % 64,128 + a / 64 % 64,128 + a % 64]
def unit (enc u:Int):List Int:=if enc=2 then [u % 256,u / 256] else [u / 256,u % 256]
def put (enc a:Int):List Int :=
 if a < 0 then [-1 - a] else if enc=1 then put8 a else if enc=4 then [a]
 else if 65536≤a then unit enc (55296 + (a - 65536) / 1024) ++ unit enc (56320 + a % 1024)
 else unit enc a
def size (enc a:Int):Int:=if fits enc a=true then (put enc a).length else 0
def nsize (a:Int):Int :=
 if a < -256 then 0 else if a≤-129 then 1 else if a < 0 then 0 else if a < 128 then 1 else if a < 2048 then 2
 else if a < 55296 then 3 else if a≤57343 then 0 else if a < 65536 then 3 else if a≤1114111 then 4 else 0
def wsize (a:Int):Int :=
 if a < -256 then 0 else if a < 0 then 1 else if a < 65536 then 2 else if a≤1114111 then 4 else 0
def lsize (a:Int):Int:=if a < 0 then 0 else if a≤255 then 1 else 0
theorem size1 (a:Int):size 1 a=nsize a:=by
 unfold size nsize fits isSc put put8
 simp
 repeat' split
 all_goals first | omega | (simp;omega) | simp
theorem sizeW (enc a:Int) (h:enc=2∨enc=3):size enc a=wsize a:=by
 rcases h with rfl | rfl
 all_goals
  unfold size wsize fits put unit
  simp
  repeat' split
  all_goals first | omega | (simp;omega) | simp
theorem size4 (a:Int):size 4 a=lsize a:=by
 unfold size lsize fits put
 simp
 repeat' split
 all_goals first | omega | (simp;omega) | simp
end Go.Proofs.YtjjfakokakamaaaGreat.Cx

namespace Go.Proofs.YtjjfakokakamaaaGreat
open Go.RowKit
def Cx.cv (enc:Int):Value :=
 if enc=1 then .iface 175 (.agg #[]) else if enc=2 then .iface 177 (.agg #[.int .i64 0])
 else if enc=3 then .iface 177 (.agg #[.int .i64 1]) else if enc=4 then .iface 178 (.agg #[]) else .nilIface
def Cx.known (enc:Int):Bool:=decide (1≤enc) && decide (enc≤4)
theorem m_size1 (w : World) : (method 336 175 (.agg #[]) "copyist/codec.size").run Tryz.prog w = .ok (176, .agg #[]) w := by kernel_rfl
theorem m_size2 (k : Int) (w : World) : (method 336 177 (.agg #[.int .i64 k]) "copyist/codec.size").run Tryz.prog w = .ok (191, .agg #[.int .i64 k]) w := by kernel_rfl
theorem m_size4 (w : World) : (method 336 178 (.agg #[]) "copyist/codec.size").run Tryz.prog w = .ok (203, .agg #[]) w := by kernel_rfl
theorem ret_int {k:IntKind} {a b:Int} (h:a=b):Ending.returned (.int k a)=.returned (.int k b):=by rw [h]
theorem ret_bool {a b:Bool} (h:a=b):Ending.returned (.bool a)=.returned (.bool b):=by rw [h]
theorem coderOf_any (enc:Int) (w:World):Calls Tryz.prog 57 #[.int .i64 enc] w fun e w'=>e=.returned (.tuple #[Cx.cv enc,.bool (Cx.known enc)])∧w'=w:=by
 by_cases h1:enc=1
 ·subst h1;go_enter Tryz.func57,Tryz.ntmps57;go_wp2;go_ret2;exact ⟨rfl,rfl⟩
 by_cases h2:enc=2
 ·subst h2;go_enter Tryz.func57,Tryz.ntmps57;go_wp2;go_ret2;exact ⟨rfl,rfl⟩
 by_cases h3:enc=3
 ·subst h3;go_enter Tryz.func57,Tryz.ntmps57;go_wp2;go_ret2;exact ⟨rfl,rfl⟩
 by_cases h4:enc=4
 ·subst h4;go_enter Tryz.func57,Tryz.ntmps57;go_wp2;go_ret2;exact ⟨rfl,rfl⟩
 ·have e1:Cx.cv enc=.nilIface:=by simp [Cx.cv,h1,h2,h3,h4]
  have e2:Cx.known enc=false:=by simp [Cx.known];omega
  rw [e1,e2]
  have b1:(enc == 1)=false:=by simp [h1]
  have b2:(enc == 2)=false:=by simp [h2]
  have b3:(enc == 3)=false:=by simp [h3]
  have b4:(enc == 4)=false:=by simp [h4]
  clear h1 h2 h3 h4 e1 e2
  go_enter Tryz.func57,Tryz.ntmps57
  go_wp2
  go_ret2
  exact ⟨rfl,rfl⟩
theorem coderOf_1 (w:World):Calls Tryz.prog 57 #[.int .i64 1] w fun e w'=>e=.returned (.tuple #[.iface 175 (.agg #[]),.bool true])∧w'=w:=coderOf_any 1 w
theorem coderOf_2 (w:World):Calls Tryz.prog 57 #[.int .i64 2] w fun e w'=>e=.returned (.tuple #[.iface 177 (.agg #[.int .i64 0]),.bool true])∧w'=w:=coderOf_any 2 w
theorem coderOf_3 (w:World):Calls Tryz.prog 57 #[.int .i64 3] w fun e w'=>e=.returned (.tuple #[.iface 177 (.agg #[.int .i64 1]),.bool true])∧w'=w:=coderOf_any 3 w
theorem coderOf_4 (w:World):Calls Tryz.prog 57 #[.int .i64 4] w fun e w'=>e=.returned (.tuple #[.iface 178 (.agg #[]),.bool true])∧w'=w:=coderOf_any 4 w
theorem coderOf_no (enc:Int) (h1:enc≠1) (h2:enc≠2) (h3:enc≠3) (h4:enc≠4) (w:World):Calls Tryz.prog 57 #[.int .i64 enc] w fun e w'=>e=.returned (.tuple #[.nilIface,.bool false])∧w'=w:=by
 have e1:Cx.cv enc=.nilIface:=by simp [Cx.cv,h1,h2,h3,h4]
 have e2:Cx.known enc=false:=by simp [Cx.known];omega
 have:=coderOf_any enc w
 rwa [e1,e2] at this
set_option maxHeartbeats 1000000 in
theorem nsize_any (a:Int) (w:World):Calls Tryz.prog 176 #[.agg #[],.int .i64 a] w fun e w'=>e=.returned (.int .i64 (Cx.nsize a))∧Below w.heap.size w w':=by
 rcases (show a < -256∨(-256≤a∧a≤-129)∨(-128≤a∧a≤-1)∨(0≤a∧a < 128)∨(128≤a∧a < 2048)∨(2048≤a∧a < 55296)∨(55296≤a∧a≤57343)∨(57344≤a∧a < 65536)∨(65536≤a∧a≤1114111)∨1114111 < a from by omega) with h | ⟨h,h'⟩ | ⟨h,h'⟩ | ⟨h,h'⟩ | ⟨h,h'⟩ | ⟨h,h'⟩ | ⟨h,h'⟩ | ⟨h,h'⟩ | ⟨h,h'⟩ | h
 all_goals
  go_enter Tryz.func176,Tryz.ntmps176
  go_wp2
  go_ret
  refine ⟨ret_int ?_,(Below.refl _ _).alloc (Nat.le_refl _) _⟩
  unfold Cx.nsize
  repeat' split
  all_goals omega
set_option maxHeartbeats 1000000 in
theorem wsize_any (k a:Int) (w:World):Calls Tryz.prog 191 #[.agg #[.int .i64 k],.int .i64 a] w fun e w'=>e=.returned (.int .i64 (Cx.wsize a))∧Below w.heap.size w w':=by
 rcases (show a < -256∨(-256≤a∧a≤-1)∨(0≤a∧a < 55296)∨(55296≤a∧a≤57343)∨(57344≤a∧a < 65536)∨(65536≤a∧a≤1114111)∨1114111 < a from by omega) with h | ⟨h,h'⟩ | ⟨h,h'⟩ | ⟨h,h'⟩ | ⟨h,h'⟩ | ⟨h,h'⟩ | h
 all_goals
  first | have hd:decide (a≤57343)=false:=by simp;omega
        | skip
  go_enter Tryz.func191,Tryz.ntmps191
  go_wp2
  go_ret
  refine ⟨ret_int ?_,(Below.refl _ _).alloc (Nat.le_refl _) _⟩
  unfold Cx.wsize
  repeat' split
  all_goals omega
theorem lsize_any (a:Int) (w:World):Calls Tryz.prog 203 #[.agg #[],.int .i64 a] w fun e w'=>e=.returned (.int .i64 (Cx.lsize a))∧Below w.heap.size w w':=by
 rcases (show a < 0∨(0≤a∧a≤255)∨255 < a from by omega) with h | ⟨h,h'⟩ | h
 all_goals
  go_enter Tryz.func203,Tryz.ntmps203
  go_wp2
  go_ret
  refine ⟨ret_int ?_,(Below.refl _ _).alloc (Nat.le_refl _) _⟩
  unfold Cx.lsize
  repeat' split
  all_goals omega
theorem Cx.size_other (enc a:Int) (h1:enc≠1) (h2:enc≠2) (h3:enc≠3) (h4:enc≠4):Cx.size enc a=0:=by
 simp [Cx.size,Cx.fits,h1,h2,h3,h4]
theorem Size_any (enc a:Int) (w:World):Calls Tryz.prog 53 #[.int .i64 enc,.int .i64 a] w fun e w'=>e=.returned (.int .i64 (Cx.size enc a))∧Below w.heap.size w w':=by
 by_cases h1:enc=1
 ·subst h1
  rw [Cx.size1]
  have hm:=m_size1
  go_enter Tryz.func53,Tryz.ntmps53
  go_wp2_with (first | (go_at_call 57;refine (coderOf_1 _).mono ?_;rintro e w' ⟨rfl,rfl⟩) | (go_at_call 176;refine (nsize_any _ _).mono ?_;rintro e w' ⟨rfl,hb⟩))
  go_ret
  exact ⟨rfl,by assumption⟩
 by_cases h2:enc=2
 ·subst h2
  rw [Cx.sizeW _ _ (by decide)]
  have hm:=m_size2
  go_enter Tryz.func53,Tryz.ntmps53
  go_wp2_with (first | (go_at_call 57;refine (coderOf_2 _).mono ?_;rintro e w' ⟨rfl,rfl⟩) | (go_at_call 191;refine (wsize_any _ _ _).mono ?_;rintro e w' ⟨rfl,hb⟩))
  go_ret
  exact ⟨rfl,by assumption⟩
 by_cases h3:enc=3
 ·subst h3
  rw [Cx.sizeW _ _ (by decide)]
  have hm:=m_size2
  go_enter Tryz.func53,Tryz.ntmps53
  go_wp2_with (first | (go_at_call 57;refine (coderOf_3 _).mono ?_;rintro e w' ⟨rfl,rfl⟩) | (go_at_call 191;refine (wsize_any _ _ _).mono ?_;rintro e w' ⟨rfl,hb⟩))
  go_ret
  exact ⟨rfl,by assumption⟩
 by_cases h4:enc=4
 ·subst h4
  rw [Cx.size4]
  have hm:=m_size4
  go_enter Tryz.func53,Tryz.ntmps53
  go_wp2_with (first | (go_at_call 57;refine (coderOf_4 _).mono ?_;rintro e w' ⟨rfl,rfl⟩) | (go_at_call 203;refine (lsize_any _ _).mono ?_;rintro e w' ⟨rfl,hb⟩))
  go_ret
  exact ⟨rfl,by assumption⟩
 ·rw [Cx.size_other _ _ h1 h2 h3 h4]
  go_enter Tryz.func53,Tryz.ntmps53
  go_wp2_with (go_at_call 57;refine (coderOf_no _ h1 h2 h3 h4 _).mono ?_;rintro e w' ⟨rfl,rfl⟩)
  go_ret
  exact ⟨rfl,Below.refl _ _⟩
end Go.Proofs.YtjjfakokakamaaaGreat

namespace Go.Proofs.YtjjfakokakamaaaGreat
open Go.RowKit
theorem Scalar_any (a:Int) (w:World):Calls Tryz.prog 145 #[.int .i64 a] w fun e w'=>e=.returned (.bool (Cx.isSc a))∧w'=w:=by
 rcases (show a < 0∨(0≤a∧a < 55296)∨(55296≤a∧a≤57343)∨(57344≤a∧a≤1114111)∨1114111 < a from by omega) with h | ⟨h,h'⟩ | ⟨h,h'⟩ | ⟨h,h'⟩ | h
 all_goals
  go_enter Tryz.func145,Tryz.ntmps145
  go_wp2
  all_goals
   go_ret
   refine ⟨ret_bool ?_,rfl⟩
   first | (simp [Cx.isSc];done) | (rw [Bool.eq_iff_iff];simp [Cx.isSc];omega)
def Cx.Lit (w w':World) (v:Value) (bs:List Int):Prop :=
 ∃ g,v=.slice (some ⟨g,0,none⟩) bs.length bs.length∧w.heap.size≤g∧w'.heap[g]?=some (.cells (bs.map (Value.int .u8)).toArray 5 (0,0))∧Below w.heap.size w w'
theorem Cx.lit_new (w:World) (bs:List Int):Cx.Lit w (w.alloc (.cells (bs.map (Value.int .u8)).toArray 5)) (.slice (some ⟨w.heap.size,0,none⟩) bs.length bs.length) bs :=
 ⟨w.heap.size,rfl,Nat.le_refl _,heap_alloc_new w _,(Below.refl _ _).alloc (Nat.le_refl _) _⟩
theorem eight_any (a:Int) (w:World) (h0:0≤a) (hx:a≤1114111):Calls Tryz.prog 131 #[.int .i64 a] w fun e w'=>∃ v,e=.returned v∧Cx.Lit w w' v (Cx.put8 a):=by
 rcases (show a < 128∨(128≤a∧a < 2048)∨(2048≤a∧a < 65536)∨65536≤a from by omega) with h | ⟨h,h'⟩ | ⟨h,h'⟩ | h
 ·have e1:Cx.put8 a=[a]:=by unfold Cx.put8;rw [if_pos h]
  go_enter Tryz.func131,Tryz.ntmps131
  go_wp2
  go_ret
  exact ⟨_,rfl,by rw [e1];exact Cx.lit_new w [a]⟩
 ·have e1:Cx.put8 a=[192 + a / 64,128 + a % 64]:=by unfold Cx.put8;rw [if_neg (by omega),if_pos h']
  go_enter Tryz.func131,Tryz.ntmps131
  go_wp2
  go_ret
  exact ⟨_,rfl,by rw [e1];exact Cx.lit_new w [192 + a / 64,128 + a % 64]⟩
 ·have e1:Cx.put8 a=[224 + a / 4096,128 + a / 64 % 64,128 + a % 64]:=by unfold Cx.put8;rw [if_neg (by omega),if_neg (by omega),if_pos h']
  go_enter Tryz.func131,Tryz.ntmps131
  go_wp2
  go_ret
  exact ⟨_,rfl,by rw [e1];exact Cx.lit_new w [224 + a / 4096,128 + a / 64 % 64,128 + a % 64]⟩
 ·have e1:Cx.put8 a=[240 + a / 262144,128 + a / 4096 % 64,128 + a / 64 % 64,128 + a % 64]:=by unfold Cx.put8;rw [if_neg (by omega),if_neg (by omega),if_neg (by omega)]
  go_enter Tryz.func131,Tryz.ntmps131
  go_wp2
  go_ret
  exact ⟨_,rfl,by rw [e1];exact Cx.lit_new w [240 + a / 262144,128 + a / 4096 % 64,128 + a / 64 % 64,128 + a % 64]⟩
theorem Cx.Lit.head {w w':World} {v:Value} {bs:List Int} (h:Cx.Lit w w' v bs):∃ g,v=.slice (some ⟨g,0,none⟩) bs.length bs.length∧w.heap.size≤g∧(∀ i,i < bs.length→w'.cell? ⟨g,i,none⟩=some (.int .u8 (bs.getD i 0)))∧Below w.heap.size w w':=by
 obtain ⟨g,hv,hg,hh,hb⟩:=h
 refine ⟨g,hv,hg,fun i hi=>?_,hb⟩
 rw [cell_of_row w' g i _ _ _ hh]
 simp [List.getD,hi]
theorem Cx.put_len (enc a:Int):1≤(Cx.put enc a).length∧(Cx.put enc a).length≤4:=by
 unfold Cx.put Cx.put8 Cx.unit
 repeat' split
 all_goals simp
def Cx.u0 (enc u:Int):Int:=if enc=2 then u % 256 else u / 256
def Cx.u1 (enc u:Int):Int:=if enc=2 then u / 256 else u % 256
theorem Cx.unit_eq (enc u:Int):Cx.unit enc u=[Cx.u0 enc u,Cx.u1 enc u]:=by unfold Cx.unit Cx.u0 Cx.u1;split <;> rfl
end Go.Proofs.YtjjfakokakamaaaGreat

namespace Go.Proofs.YtjjfakokakamaaaGreat.Cx
def rowN (c:Int):Int:=if c≤127 then 1 else if c < 194 then 0 else if c≤223 then 2 else if c≤239 then 3 else if c≤244 then 4 else 0
def rowLo (c:Int):Int:=if c < 194 then 0 else if c=224 then 160 else if c=240 then 144 else if c≤244 then 128 else 0
def rowHi (c:Int):Int:=if c < 194 then 0 else if c=237 then 159 else if c=244 then 143 else if c≤244 then 191 else 0
def loJ (c:Int) (k:Nat):Int:=if k=1 then rowLo c else 128
def hiJ (c:Int) (k:Nat):Int:=if k=1 then rowHi c else 191
def c0 (b:List Int):Int:=b[0]?.getD 0
def okAt (b:List Int) (j:Nat):Bool:=decide (b.length≤j) || (decide (loJ (c0 b) j≤b[j]?.getD 0) && decide (b[j]?.getD 0≤hiJ (c0 b) j))
def okAll (b:List Int):Bool :=
 (decide (rowN (c0 b) < 2) || okAt b 1) && (decide (rowN (c0 b) < 3) || okAt b 2) && (decide (rowN (c0 b) < 4) || okAt b 3)
def mtch (b:List Int):Int:=if okAll b=true then rowN (c0 b) else 0
theorem rowN_bd (c:Int):0≤rowN c∧rowN c≤4:=by unfold rowN;repeat' split <;> omega
theorem mtch_yes (b:List Int) (k:Nat) (hn:∀ j,1≤j→j < k→okAt b j=true) (he:rowN (c0 b)≤k∨b.length≤k):mtch b=rowN (c0 b):=by
 have hb:=rowN_bd (c0 b)
 have ok:∀ j:Nat,1≤j→(j:Int) < rowN (c0 b)→okAt b j=true:=by
  intro j hj hr
  by_cases hjk:j < k
  ·exact hn j hj hjk
  ·rcases he with he | he
   ·omega
   ·unfold okAt;rw [decide_eq_true (show b.length≤j by omega),Bool.true_or]
 unfold mtch
 rw [if_pos]
 unfold okAll
 have q:∀ j:Nat,1≤j→∀ m:Int,m=(j:Int) + 1→(decide (rowN (c0 b) < m) || okAt b j)=true:=by
  intro j hj m hm
  by_cases h:rowN (c0 b) < m
  ·rw [decide_eq_true h,Bool.true_or]
  ·rw [ok j hj (by omega),Bool.or_true]
 rw [q 1 (by omega) 2 rfl,q 2 (by omega) 3 rfl,q 3 (by omega) 4 rfl];rfl
theorem mtch_no (b:List Int) (k:Nat) (h1:1≤k) (hr:(k:Int) < rowN (c0 b)) (hl:k < b.length) (hx:¬ (loJ (c0 b) k≤b[k]?.getD 0∧b[k]?.getD 0≤hiJ (c0 b) k)):mtch b=0:=by
 have hb:=rowN_bd (c0 b)
 have ho:okAt b k=false:=by
  unfold okAt
  rw [decide_eq_false (show ¬ b.length≤k by omega),Bool.false_or]
  simp only [Bool.and_eq_false_iff,decide_eq_false_iff_not]
  rcases Classical.em (loJ (c0 b) k≤b[k]?.getD 0) with h | h
  ·exact .inr fun h'=>hx ⟨h,h'⟩
  ·exact .inl h
 unfold mtch
 rw [if_neg]
 intro h
 unfold okAll at h
 simp only [Bool.and_eq_true,Bool.or_eq_true,decide_eq_true_eq] at h
 obtain ⟨⟨h2,h3⟩,h4⟩:=h
 have e:k=1∨k=2∨k=3:=by omega
 rcases e with rfl | rfl | rfl
 ·rcases h2 with h | h
  ·omega
  ·rw [h] at ho;cases ho
 ·rcases h3 with h | h
  ·omega
  ·rw [h] at ho;cases ho
 ·rcases h4 with h | h
  ·omega
  ·rw [h] at ho;cases ho
theorem okAt_of (b:List Int) (k:Nat) (h:loJ (c0 b) k≤b[k]?.getD 0∧b[k]?.getD 0≤hiJ (c0 b) k):okAt b k=true:=by
 unfold okAt
 rw [decide_eq_true h.1,decide_eq_true h.2];simp
theorem mtch_bd (b:List Int):0≤mtch b∧mtch b≤4:=by
 have:=rowN_bd (c0 b)
 unfold mtch;split <;> omega
def val:List Int→Int
 | [a]=>a
 | [a,b]=>(a - 192) * 64 + (b - 128)
 | [a,b,c]=>((a - 224) * 64 + (b - 128)) * 64 + (c - 128)
 | [a,b,c,d]=>(((a - 240) * 64 + (b - 128)) * 64 + (c - 128)) * 64 + (d - 128)
 | _=>0
def first8 (b:List Int):Int × Int:=if 0 < mtch b∧mtch b≤b.length then (val (b.take (mtch b).toNat),mtch b) else (-1 - c0 b,1)
theorem row_bytes (b:List Int) (hb:∀ z ∈ b,0≤z∧z≤255) (h0:0 < mtch b) (hl:mtch b≤b.length) :
  (∃ x,b.take (mtch b).toNat=[x]∧mtch b=1∧0≤x∧x≤127) ∨
  (∃ x y,b.take (mtch b).toNat=[x,y]∧mtch b=2∧194≤x∧x≤223∧128≤y∧y≤191) ∨
  (∃ x y z,b.take (mtch b).toNat=[x,y,z]∧mtch b=3∧224≤x∧x≤239∧rowLo x≤y∧y≤rowHi x∧128≤z∧z≤191) ∨
  (∃ x y z u,b.take (mtch b).toNat=[x,y,z,u]∧mtch b=4∧240≤x∧x≤244∧rowLo x≤y∧y≤rowHi x∧128≤z∧z≤191∧128≤u∧u≤191):=by
 have hm:okAll b=true∧mtch b=rowN (c0 b):=by
  unfold mtch at h0 ⊢
  split at h0
  ·rename_i h;exact ⟨h,by rw [if_pos h]⟩
  ·omega
 obtain ⟨hok,he⟩:=hm
 rw [he] at h0 hl ⊢
 unfold okAll at hok
 simp only [Bool.and_eq_true,Bool.or_eq_true,decide_eq_true_eq] at hok
 obtain ⟨⟨h2,h3⟩,h4⟩:=hok
 match b,hb,hl,h0,h2,h3,h4 with
 | [],_,hl,h0,_,_,_=>simp only [List.length_nil] at hl;omega
 | [x],hb,hl,h0,h2,h3,h4 =>
   have hx:=hb x (by simp)
   simp only [c0,List.getElem?_cons_zero,Option.getD_some,List.length_cons,List.length_nil] at *
   have e1:rowN x=1:=by omega
   refine .inl ⟨x,by rw [e1];rfl,e1,hx.1,?_⟩
   unfold rowN at e1;repeat' split at e1
   all_goals omega
 | x :: y :: l,hb,hl,h0,h2,h3,h4 =>
   have hx:=hb x (by simp)
   have hy:=hb y (by simp)
   simp only [c0,List.getElem?_cons_zero,Option.getD_some,List.length_cons] at *
   have hcase:(rowN x=1∧x≤127)∨(rowN x=2∧194≤x∧x≤223)∨(rowN x=3∧224≤x∧x≤239)∨(rowN x=4∧240≤x∧x≤244):=by
    unfold rowN at h0 ⊢;repeat' split at h0
    all_goals first | omega | (simp [*];omega)
   have k1:2≤rowN x→rowLo x≤y∧y≤rowHi x:=by
    intro h
    rcases h2 with h2 | h2
    ·omega
    ·simpa [okAt,c0,loJ,hiJ] using h2
   rcases hcase with ⟨e,r⟩ | ⟨e,r⟩ | ⟨e,r⟩ | ⟨e,r⟩
   ·exact .inl ⟨x,by rw [e];rfl,e,hx.1,r⟩
   ·refine .inr (.inl ⟨x,y,by rw [e];rfl,e,r.1,r.2,?_⟩)
    have:=k1 (by omega)
    unfold rowLo rowHi at this
    repeat' split at this
    all_goals omega
   ·match l,hb,hl,h3 with
    | [],_,hl,_=>simp at hl;omega
    | z :: l,hb,hl,h3 =>
      have k2:128≤z∧z≤191:=by
       rcases h3 with h3 | h3
       ·omega
       ·simpa [okAt,loJ,hiJ] using h3
      exact .inr (.inr (.inl ⟨x,y,z,by rw [e];rfl,e,r.1,r.2,(k1 (by omega)).1,(k1 (by omega)).2,k2.1,k2.2⟩))
   ·match l,hb,hl,h3,h4 with
    | [],_,hl,_,_=>simp at hl;omega
    | [z],_,hl,_,_=>simp at hl;omega
    | z :: u :: l,hb,hl,h3,h4 =>
      have k2:128≤z∧z≤191:=by
       rcases h3 with h3 | h3
       ·omega
       ·simpa [okAt,loJ,hiJ] using h3
      have k3:128≤u∧u≤191:=by
       rcases h4 with h4 | h4
       ·omega
       ·simpa [okAt,loJ,hiJ] using h4
      exact .inr (.inr (.inr ⟨x,y,z,u,by rw [e];rfl,e,r.1,r.2,(k1 (by omega)).1,(k1 (by omega)).2,k2.1,k2.2,k3.1,k3.2⟩))
end Go.Proofs.YtjjfakokakamaaaGreat.Cx

namespace Go.Proofs.YtjjfakokakamaaaGreat
open Go.RowKit
theorem Tryz.info_u8:(Tryz.prog.info? 5).map (fun i=>(i.zero,i.size,i.bytes))=some (some (.int .u8 0),1,1):=by kernel_rfl
theorem Tryz.info_i64:(Tryz.prog.info? 3).map (fun i=>(i.zero,i.size,i.bytes))=some (some (.int .i64 0),1,8):=by kernel_rfl
def Rd (k:IntKind) (w:World) (v:Value) (zs:List Int):Prop :=
 ∃ ao cap,v=.slice ao zs.length cap∧zs.length≤cap∧cap≤maxLen ∧
   (zs≠[]→∃ b off,ao=some ⟨b,off,none⟩∧b < w.heap.size∧∀ i,i < zs.length→w.cell? ⟨b,off + i,none⟩=some (.int k (zs[i]?.getD 0)))
theorem Rd.ext {k:IntKind} {w w':World} {v:Value} {zs:List Int} (h:Rd k w v zs) (hb:Below w.heap.size w w'):Rd k w' v zs:=by
 obtain ⟨ao,cap,hv,h1,h2,h3⟩:=h
 refine ⟨ao,cap,hv,h1,h2,fun hn=>?_⟩
 obtain ⟨b,off,ha,hlt,hc⟩:=h3 hn
 exact ⟨b,off,ha,Nat.lt_of_lt_of_le hlt hb.size,fun i hi=>(hb.cell (p:=⟨b,off + i,none⟩) hlt).trans (hc i hi)⟩
theorem Rd.grown {k:IntKind} {w w':World} {v:Value} {zs:List Int} {B:Nat} (h:Rd k w v zs) (hB:zs≠[]→∀ b off n c,v=.slice (some ⟨b,off,none⟩) n c→b < B) (hb:Below B w w'):Rd k w' v zs:=by
 obtain ⟨ao,cap,hv,h1,h2,h3⟩:=h
 refine ⟨ao,cap,hv,h1,h2,fun hn=>?_⟩
 obtain ⟨b,off,ha,hlt,hc⟩:=h3 hn
 have hlt':=hB hn b off zs.length cap (by rw [hv,ha])
 exact ⟨b,off,ha,Nat.lt_of_lt_of_le hlt hb.size,fun i hi=>(hb.cell (p:=⟨b,off + i,none⟩) hlt').trans (hc i hi)⟩
theorem Rd.of_own {k:IntKind} {w:World} {base:Nat} {e:TypeId} {v:Value} {n:Nat} {zs:List Int} (h:w.ownsRow base e 1 v n (zs.map (Value.int k))):Rd k w v zs:=by
 obtain ⟨h1,h2⟩:=h
 simp at h1
 subst h1
 rcases h2 with ⟨rfl,hn⟩ | ⟨g,cap,cur,rfl,hb,hg,hn,hc,hs,ht⟩
 ·exact ⟨none,0,by rw [hn],by omega,by simp [maxLen],fun h=>absurd (List.length_eq_zero_iff.1 hn) h⟩
 ·refine ⟨_,cap,rfl,hn,hc,fun _=>⟨g,0,rfl,(Array.getElem?_eq_some_iff.1 hg).1,fun i hi=>?_⟩⟩
  rw [cell_of_row w g (0 + i) cur e (0,0) hg]
  simp only [Nat.mul_one] at ht
  have:(cur.toList.take zs.length)[i]?=some (Value.int k (zs[i]?.getD 0)):=by rw [ht];simp [hi]
  rw [List.getElem?_take,if_pos hi] at this
  simpa using this
theorem Rd.len {k:IntKind} {w:World} {v:Value} {zs:List Int} (h:Rd k w v zs):zs.length≤9223372036854775807:=by
 obtain ⟨ao,cap,hv,h1,h2,h3⟩:=h
 unfold maxLen at h2
 omega
theorem own_ext {w w':World} {base:Nat} {e:TypeId} {size:Nat} {v:Value} {n:Nat} {xs:List Value} (h:w.ownsRow base e size v n xs) (hb:Below w.heap.size w w'):w'.ownsRow base e size v n xs :=
 h.kept (row:=none) ⟨hb.os,hb.tape,hb.output,hb.size,fun k hk _=>hb.block k hk⟩ (by cases v.ownBlock <;> simp)
theorem ext_trans {a b c:World} (h:Below a.heap.size a b) (k:Below b.heap.size b c):Below a.heap.size a c:=h.trans (k.mono h.size)
theorem below_push {w wr w':World} {o:Obj} {e:TypeId} {size n:Nat} {v:Value} {xs:List Value} (hb:Below w.heap.size w wr) (hown:wr.ownsRow w.heap.size e size v n xs) (hg:(wr.alloc o).grownBy w' v.ownBlock):Below w.heap.size w w' :=
 (hb.alloc hb.size o).grown hg (by have:=hb.size;simp;omega) (fun k hk=>(hown.lt k hk).1)
theorem one_i64 (x:Int):∀ u ∈ [Value.int .i64 x],u.oneCell'=true:=by intro u hu;simp at hu;subst hu;rfl
end Go.Proofs.YtjjfakokakamaaaGreat

namespace Go.Proofs.YtjjfakokakamaaaGreat
open Go.RowKit
def fillB (i:Nat):Int:=wrap64 (167 + (i:Int)) % 256
def fill (a m:Nat):List Int:=(List.range' a m).map fillB
def Lent (w:World) (base g cap:Nat) (zs:List Int):Prop :=
 zs.length + 40≤cap∧cap≤maxLen∧base≤g∧g < w.heap.size∧w.ownsRow base 5 1 (.slice (some ⟨g,0,none⟩) cap cap) cap ((zs ++ fill zs.length (cap - zs.length)).map (Value.int .u8))
end Go.Proofs.YtjjfakokakamaaaGreat

namespace Go.Proofs.YtjjfakokakamaaaGreat
open Go.RowKit
theorem Rd.drewN {k:IntKind} {w:World} {v:Value} {zs:List Int} (h:Rd k w v zs) (n:Nat):Rd k (w.drewN n) v zs:=h.ext (below_drewN (Below.refl _ _) n)
theorem Lent.rd {w:World} {base g cap:Nat} {zs:List Int} (h:Lent w base g cap zs):Rd .u8 w (.slice (some ⟨g,0,none⟩) zs.length cap) zs:=by
 obtain ⟨hl1,hl2,hl3,hl4,hown⟩:=h
 refine ⟨_,cap,rfl,by omega,hl2,fun _=>⟨g,0,rfl,hl4,fun i hi=>?_⟩⟩
 rw [Nat.zero_add,hown.cellAt i (by omega),List.getElem?_map,List.getElem?_append_left hi]
 simp [hi]
theorem Lent.ext {w w':World} {base g cap:Nat} {zs:List Int} (h:Lent w base g cap zs) (hb:Below w.heap.size w w'):Lent w' base g cap zs :=
 ⟨h.1,h.2.1,h.2.2.1,Nat.lt_of_lt_of_le h.2.2.2.1 hb.size,own_ext h.2.2.2.2 hb⟩
end Go.Proofs.YtjjfakokakamaaaGreat

namespace Go.Proofs.YtjjfakokakamaaaGreat
open Go.RowKit
def Byt (zs:List Int):Prop:=∀ z ∈ zs,0≤z∧z≤255
theorem Byt.take {zs:List Int} (h:Byt zs) (n:Nat):Byt (zs.take n):=fun z hz=>h z (List.mem_of_mem_take hz)
theorem Byt.drop {zs:List Int} (h:Byt zs) (n:Nat):Byt (zs.drop n):=fun z hz=>h z (List.mem_of_mem_drop hz)
theorem pre_iff (m z:List Int):(decide (m.length≤z.length) && decide (z.take m.length=m))=m.isPrefixOf z:=by
 rw [Bool.eq_iff_iff,List.isPrefixOf_iff_prefix]
 simp only [Bool.and_eq_true,decide_eq_true_eq]
 constructor
 ·rintro ⟨_,h⟩
  exact List.prefix_iff_eq_take.2 h.symm
 ·intro h
  exact ⟨h.length_le,(List.prefix_iff_eq_take.1 h).symm⟩
theorem Rd.take {k:IntKind} {w:World} {ao:Option Addr} {n cap:Nat} {zs:List Int} (h:Rd k w (.slice ao n cap) zs) (m:Nat) (hm:m≤zs.length):Rd k w (.slice ao m cap) (zs.take m):=by
 obtain ⟨ao',cap',hv,h1,h2,h3⟩:=h
 cases hv
 refine ⟨ao,cap,by rw [List.length_take,Nat.min_eq_left hm],by rw [List.length_take];omega,h2,fun hn=>?_⟩
 obtain ⟨b,off,ha,hb,hc⟩:=h3 (fun h=>hn (by rw [h];simp))
 refine ⟨b,off,ha,hb,fun i hi=>?_⟩
 rw [List.length_take] at hi
 rw [hc i (by omega),List.getElem?_take,if_pos (by omega)]
theorem take_grow (m z:List Int) (k:Nat) (h:m.take k=z.take k) (hm:k < m.length) (hz:k < z.length) (he:m[k]?.getD 0=z[k]?.getD 0):m.take (k + 1)=z.take (k + 1):=by
 rw [List.take_succ_eq_append_getElem hm,List.take_succ_eq_append_getElem hz,h]
 simp [hm,hz] at he
 rw [he]
theorem pre_no (m z:List Int) (k:Nat) (hm:k < m.length) (hz:m.length≤z.length) (he:m[k]?.getD 0≠z[k]?.getD 0):m.isPrefixOf z=false:=by
 rw [Bool.eq_false_iff]
 intro h
 rw [List.isPrefixOf_iff_prefix] at h
 obtain ⟨t,rfl⟩:=h
 exact he (by rw [List.getElem?_append_left hm])
theorem pre_yes (m z:List Int) (hz:m.length≤z.length) (he:m.take m.length=z.take m.length):m.isPrefixOf z=true:=by
 rw [← pre_iff]
 rw [List.take_length] at he
 simp [hz,← he]
theorem begins_any (v1 v2:Value) (z m:List Int) (at':Nat) (w:World) (h1:Rd .u8 w v1 z) (h2:Rd .u8 w v2 m) (hat:at'≤z.length) (hm0:m≠[]) (hsum:z.length + m.length≤4611686018427387904) :
  Calls Tryz.prog 149 #[v1,.int .i64 at',v2] w fun e w'=>e=.returned (.bool (m.isPrefixOf (z.drop at')))∧Below w.heap.size w w':=by
 have hz1:=h1.len
 have hz2:=h2.len
 obtain ⟨ao,cp,rfl,hl1,hc1,h1⟩:=h1
 obtain ⟨ao2,cp2,rfl,hl2,hc2,h2⟩:=h2
 by_cases hl:at' + m.length≤z.length
 ·have hmp:0 < m.length:=List.length_pos_iff.2 hm0
  have hzn:z≠[]:=List.length_pos_iff.1 (by omega)
  obtain ⟨b,off,rfl,hb,hcl⟩:=h1 hzn
  obtain ⟨b2,off2,rfl,hb2,hcl2⟩:=h2 hm0
  have HY:Hid (m.take m.length=(z.drop at').take m.length→m.isPrefixOf (z.drop at')=true):=pre_yes m _ (by rw [List.length_drop];omega)
  have HN:Hid (∀ k,k < m.length→m[k]?.getD 0≠z[at' + k]?.getD 0→m.isPrefixOf (z.drop at')=false):=fun k hk he=>pre_no m _ k hk (by rw [List.length_drop];omega) (by rw [List.getElem?_drop];exact he)
  have HG:Hid (∀ k,k < m.length→m.take k=(z.drop at').take k→m[k]?.getD 0=z[at' + k]?.getD 0→m.take (k + 1)=(z.drop at').take (k + 1)):=fun k hk h he=>take_grow m _ k h hk (by rw [List.length_drop];omega) (by rw [List.getElem?_drop];exact he)
  clear h1 h2 hm0 hmp hzn
  generalize m.isPrefixOf (z.drop at')=R at *
  go_enter Tryz.func149,Tryz.ntmps149
  go_wp2
  go_loopw [7] (fun i wr=>∃ k:Nat,k≤m.length∧i=.int .i64 k∧m.take k=(z.drop at').take k∧Below w.heap.size w wr) (fun i _=>m.length - (intOf i).toNat)
  case atStart=>exact ⟨0,Nat.zero_le _,rfl,rfl,Below.refl _ _⟩
  case round =>
   obtain ⟨k,hk,rfl,ht,hbw⟩:=hrel
   have HT:Hid (m.take k=(z.drop at').take k):=ht
   clear ht
   by_cases hlt:k < m.length
   ·have c1:wr.cell? ⟨b,off + (at' + k),none⟩=some (.int .u8 (z[at' + k]?.getD 0)):=(hbw.cell (p:=⟨b,off + (at' + k),none⟩) hb).trans (hcl _ (by omega))
    have c2:wr.cell? ⟨b2,off2 + k,none⟩=some (.int .u8 (m[k]?.getD 0)):=(hbw.cell (p:=⟨b2,off2 + k,none⟩) hb2).trans (hcl2 _ hlt)
    have HN':=HN.out k hlt
    have HG':=HG.out k hlt HT.out
    generalize z[at' + k]?.getD 0=x at *
    generalize m[k]?.getD 0=y at *
    clear hcl hcl2 HN HG
    by_cases he:y=x
    ·have HG2:Hid (m.take (k + 1)=(z.drop at').take (k + 1)):=HG' he
     subst he
     clear HN' HG'
     have hi1:(at':Int) + (k:Int) < (z.length:Int):=by omega
     go_wp2
     go_quiet (fail)
     go_wp2
     go_roundw
     case rel=>exact ⟨k + 1,by omega,by go_num,HG2.out,below_drewN hbw _⟩
     case measure=>simp [intOf];omega
    ·have HR:Hid (R=false):=HN' he
     have hne:(x != y)=true:=by simp;exact fun h=>he h.symm
     clear HN' HG' he
     go_wp2
     go_quiet (fail)
     go_wp2
     go_ret
     exact ⟨by rw [HR.out];rfl,below_drewN hbw _⟩
   ·have hke:k=m.length:=by omega
    subst hke
    have HR:Hid (R=true):=HY.out HT.out
    clear HY HN HG hcl hcl2 HT
    go_wp2
    go_ret
    exact ⟨by rw [HR.out];rfl,hbw⟩
 ·have e1:m.isPrefixOf (z.drop at')=false:=by
   rw [← pre_iff];simp only [List.length_drop]
   rw [decide_eq_false (by omega),Bool.false_and]
  rw [e1]
  clear h1 h2 e1 hm0
  go_enter Tryz.func149,Tryz.ntmps149
  go_wp2
  all_goals (go_ret;exact ⟨rfl,Below.refl _ _⟩)
end Go.Proofs.YtjjfakokakamaaaGreat

namespace Go.Proofs.YtjjfakokakamaaaGreat
open Go.RowKit
theorem row_any (c:Int) (w:World) (h:0≤c) (h':c≤255):Calls Tryz.prog 185 #[.int .u8 c] w fun e w'=>e=.returned (.tuple #[.int .i64 (Cx.rowN c),.int .u8 (Cx.rowLo c),.int .u8 (Cx.rowHi c)])∧w'=w:=by
 have fin:∀ (n lo hi:Int),Cx.rowN c=n→Cx.rowLo c=lo→Cx.rowHi c=hi→Calls Tryz.prog 185 #[.int .u8 c] w (fun e w'=>e=.returned (.tuple #[.int .i64 n,.int .u8 lo,.int .u8 hi])∧w'=w) →
   Calls Tryz.prog 185 #[.int .u8 c] w fun e w'=>e=.returned (.tuple #[.int .i64 (Cx.rowN c),.int .u8 (Cx.rowLo c),.int .u8 (Cx.rowHi c)])∧w'=w:=by
  intro n lo hi e1 e2 e3 h;rw [e1,e2,e3];exact h
 rcases (show c≤127∨(128≤c∧c < 194)∨(194≤c∧c≤223)∨c=224∨(225≤c∧c≤236)∨c=237∨(238≤c∧c≤239)∨c=240∨(241≤c∧c≤243)∨c=244∨(245≤c∧c≤255) from by omega) with g | ⟨g,g'⟩ | ⟨g,g'⟩ | g | ⟨g,g'⟩ | g | ⟨g,g'⟩ | g | ⟨g,g'⟩ | g | ⟨g,g'⟩
 ·refine fin 1 0 0 (by unfold Cx.rowN;rw [if_pos g]) (by unfold Cx.rowLo;rw [if_pos (by omega)]) (by unfold Cx.rowHi;rw [if_pos (by omega)]) ?_
  go_enter Tryz.func185,Tryz.ntmps185;go_wp2;go_ret3;exact ⟨rfl,rfl⟩
 ·refine fin 0 0 0 (by unfold Cx.rowN;rw [if_neg (by omega),if_pos (by omega)]) (by unfold Cx.rowLo;rw [if_pos (by omega)]) (by unfold Cx.rowHi;rw [if_pos (by omega)]) ?_
  go_enter Tryz.func185,Tryz.ntmps185;go_wp2;go_ret3;exact ⟨rfl,rfl⟩
 ·refine fin 2 128 191 (by unfold Cx.rowN;repeat' split <;> omega) (by unfold Cx.rowLo;repeat' split <;> omega) (by unfold Cx.rowHi;repeat' split <;> omega) ?_
  go_enter Tryz.func185,Tryz.ntmps185;go_wp2;go_ret3;exact ⟨rfl,rfl⟩
 ·subst g;refine fin 3 160 191 rfl rfl rfl ?_
  go_enter Tryz.func185,Tryz.ntmps185;go_wp2;go_ret3;exact ⟨rfl,rfl⟩
 ·refine fin 3 128 191 (by unfold Cx.rowN;repeat' split <;> omega) (by unfold Cx.rowLo;repeat' split <;> omega) (by unfold Cx.rowHi;repeat' split <;> omega) ?_
  go_enter Tryz.func185,Tryz.ntmps185;go_wp2;go_ret3;exact ⟨rfl,rfl⟩
 ·subst g;refine fin 3 128 159 rfl rfl rfl ?_
  go_enter Tryz.func185,Tryz.ntmps185;go_wp2;go_ret3;exact ⟨rfl,rfl⟩
 ·refine fin 3 128 191 (by unfold Cx.rowN;repeat' split <;> omega) (by unfold Cx.rowLo;repeat' split <;> omega) (by unfold Cx.rowHi;repeat' split <;> omega) ?_
  go_enter Tryz.func185,Tryz.ntmps185;go_wp2;go_ret3;exact ⟨rfl,rfl⟩
 ·subst g;refine fin 4 144 191 rfl rfl rfl ?_
  go_enter Tryz.func185,Tryz.ntmps185;go_wp2;go_ret3;exact ⟨rfl,rfl⟩
 ·refine fin 4 128 191 (by unfold Cx.rowN;repeat' split <;> omega) (by unfold Cx.rowLo;repeat' split <;> omega) (by unfold Cx.rowHi;repeat' split <;> omega) ?_
  go_enter Tryz.func185,Tryz.ntmps185;go_wp2;go_ret3;exact ⟨rfl,rfl⟩
 ·subst g;refine fin 4 128 143 rfl rfl rfl ?_
  go_enter Tryz.func185,Tryz.ntmps185;go_wp2;go_ret3;exact ⟨rfl,rfl⟩
 ·refine fin 0 0 0 (by unfold Cx.rowN;repeat' split <;> omega) (by unfold Cx.rowLo;repeat' split <;> omega) (by unfold Cx.rowHi;repeat' split <;> omega) ?_
  go_enter Tryz.func185,Tryz.ntmps185;go_wp2;go_ret3;exact ⟨rfl,rfl⟩
theorem ret_int' {k:IntKind} {a b:Int} (h:a=b):Ending.returned (.int k a)=.returned (.int k b):=by rw [h]
theorem rawAtom_any (c:Int) (w:World) (h:0≤c) (h':c≤255):Calls Tryz.prog 180 #[.int .u8 c] w fun e w'=>e=.returned (.int .i64 (-1 - c))∧w'=w:=by
 go_enter Tryz.func180,Tryz.ntmps180
 go_wp2
 go_ret
 exact ⟨rfl,rfl⟩
theorem Byt.at {zs:List Int} (h:Byt zs) (i:Nat):0≤zs[i]?.getD 0∧zs[i]?.getD 0≤255:=by
 by_cases hi:i < zs.length
 ·simp only [hi,List.getElem?_eq_getElem,Option.getD_some]
  exact h _ (List.getElem_mem hi)
 ·simp [List.getElem?_eq_none (show zs.length≤i by omega)]
set_option maxRecDepth 100000 in
theorem match_any (v:Value) (zs:List Int) (w:World) (h:Rd .u8 w v zs) (hb:Byt zs) (hn:zs≠[]) :
  Calls Tryz.prog 178 #[v] w fun e w'=>e=.returned (.int .i64 (Cx.mtch zs))∧w'=w:=by
 have hlen:=h.len
 obtain ⟨ao,cap,rfl,hl,hm,hc⟩:=h
 obtain ⟨b,off,rfl,hbl,hc⟩:=hc hn
 have hpos:0 < zs.length:=List.length_pos_iff.2 hn
 have h0:=hc 0 hpos
 have hb0:=hb.at 0
 rw [Nat.add_zero] at h0
 change 0≤Cx.c0 zs∧Cx.c0 zs≤255 at hb0
 change w.cell? ⟨b,off,none⟩=some (.int .u8 (Cx.c0 zs)) at h0
 have hr:=Cx.rowN_bd (Cx.c0 zs)
 have HY:Hid (∀ k,(∀ j,1≤j→j < k→Cx.okAt zs j=true)→(Cx.rowN (Cx.c0 zs)≤k∨zs.length≤k)→Cx.mtch zs=Cx.rowN (Cx.c0 zs)):=Cx.mtch_yes zs
 have HN:Hid (∀ k:Nat,1≤k→(k:Int) < Cx.rowN (Cx.c0 zs)→k < zs.length→¬ (Cx.loJ (Cx.c0 zs) k≤zs[k]?.getD 0∧zs[k]?.getD 0≤Cx.hiJ (Cx.c0 zs) k)→Cx.mtch zs=0):=Cx.mtch_no zs
 have HO:Hid (∀ k,(Cx.loJ (Cx.c0 zs) k≤zs[k]?.getD 0∧zs[k]?.getD 0≤Cx.hiJ (Cx.c0 zs) k)→Cx.okAt zs k=true):=Cx.okAt_of zs
 have HB:Hid (Byt zs):=hb
 generalize Cx.c0 zs=c at *
 generalize hM:Cx.mtch zs=M at *
 have HC:Hid (∀ i,i < zs.length→w.cell? ⟨b,off + i,none⟩=some (.int .u8 (zs[i]?.getD 0))):=hc
 clear hn hc hb hM hm
 go_enter Tryz.func178,Tryz.ntmps178
 go_wp2_with (go_at_call 185;refine (row_any _ _ hb0.1 hb0.2).mono ?_;rintro e w' ⟨rfl,rfl⟩)
 go_loop [4,5,6] (fun f t i=>∃ k:Nat,1≤k∧k≤4∧i=.int .i64 k∧f=.int .u8 (Cx.loJ c k)∧t=.int .u8 (Cx.hiJ c k)∧Hid (∀ j,1≤j→j < k→Cx.okAt zs j=true)) (fun _ _ i=>5 - (intOf i).toNat)
 case atStart=>exact ⟨1,Nat.le_refl _,by omega,rfl,rfl,rfl,fun j h1 h2=>by omega⟩
 case round =>
  obtain ⟨k,hk1,hk2,rfl,rfl,rfl,HJ⟩:=hrel
  by_cases hr1:(k:Int) < Cx.rowN c
  ·by_cases hl1:k < zs.length
   ·have hx:=HC.out k hl1
    have hxb:=HB.out.at k
    have HN':=HN.out k hk1 hr1 hl1
    have HO':=HO.out k
    generalize zs[k]?.getD 0=x at *
    have HX:Hid (Cx.okAt zs k=true→∀ j,1≤j→j < k + 1→Cx.okAt zs j=true):=fun ho j h1 h2=>by
     by_cases hj:j=k
     ·rw [hj];exact ho
     ·exact HJ.out j h1 (by omega)
    by_cases hlo:Cx.loJ c k≤x
    ·by_cases hhi:x≤Cx.hiJ c k
     ·have HX':Hid (∀ j,1≤j→j < k + 1→Cx.okAt zs j=true):=HX.out (HO' ⟨hlo,hhi⟩)
      have HE1:Hid (Cx.loJ c (k + 1)=128):=by unfold Hid Cx.loJ;rw [if_neg (by omega)]
      have HE2:Hid (Cx.hiJ c (k + 1)=191):=by unfold Hid Cx.hiJ;rw [if_neg (by omega)]
      clear HX HO' HN' HN HO HY HJ HC HB
      go_wp2
      go_round
      case rel=>exact ⟨k + 1,by omega,by omega,by go_num,by rw [HE1.out],by rw [HE2.out],HX'.out⟩
      case measure=>simp [intOf];omega
     ·have HM:Hid (M=0):=HN' (fun h=>hhi h.2)
      clear HX HO' HN' HN HO HY HJ HC HB
      go_wp2
      go_ret
      exact ⟨by rw [HM.out];rfl,rfl⟩
    ·have HM:Hid (M=0):=HN' (fun h=>hlo h.1)
     have hlt:x < Cx.loJ c k:=by omega
     clear HX HO' HN' HN HO HY HJ HC HB
     go_wp2
     go_ret
     exact ⟨by rw [HM.out];rfl,rfl⟩
   ·have HM:Hid (M=Cx.rowN c):=HY.out k HJ.out (.inr (by omega))
    clear HN HO HY HJ HC HB
    go_wp2
    go_ret
    exact ⟨by rw [HM.out];rfl,rfl⟩
  ·have HM:Hid (M=Cx.rowN c):=HY.out k HJ.out (.inl (by omega))
   clear HN HO HY HJ HC HB
   go_wp2
   go_ret
   exact ⟨by rw [HM.out];rfl,rfl⟩
theorem wraps_i64 (n:Int) (h₀:0≤n) (h₁:n < 2 ^ 63):IntKind.i64.wrap n=n:=by rw [IntKind.wrap_i64];omega
theorem and31 {x:Int} (h0:0≤x) (h1:x < 256):bits .and .i64 x 31=x % 32:=bits_mask .i64 63 (by decide) wraps_i64 5 (by decide) x h0 (by omega)
theorem and15 {x:Int} (h0:0≤x) (h1:x < 256):bits .and .i64 x 15=x % 16:=bits_mask .i64 63 (by decide) wraps_i64 4 (by decide) x h0 (by omega)
theorem and7 {x:Int} (h0:0≤x) (h1:x < 256):bits .and .i64 x 7=x % 8:=bits_mask .i64 63 (by decide) wraps_i64 3 (by decide) x h0 (by omega)
theorem or6 {x y:Int} (hx0:0≤x) (hx:x % 64=0) (hx1:x < 9223372036854775808) (h0:0≤y) (h1:y < 64):bits .or .i64 x y=x + y:=bits_join .i64 63 (by decide) wraps_i64 6 x y hx0 (by omega) (by omega) h0 (by omega) (by omega)
theorem wrap_small {x:Int} (h0:0≤x) (h1:x < 9223372036854775808):wrap64 x=x:=by unfold wrap64;omega
def Cx.Whole (zs:List Int):Prop :=
 (∃ x,zs=[x]∧0≤x∧x≤127)∨(∃ x y,zs=[x,y]∧194≤x∧x≤223∧128≤y∧y≤191) ∨
 (∃ x y z,zs=[x,y,z]∧224≤x∧x≤239∧128≤y∧y≤191∧128≤z∧z≤191) ∨
 (∃ x y z u,zs=[x,y,z,u]∧240≤x∧x≤244∧128≤y∧y≤191∧128≤z∧z≤191∧128≤u∧u≤191)
theorem Cx.whole_of (b:List Int) (hb:Byt b) (h0:0 < Cx.mtch b) (hl:Cx.mtch b≤b.length):Cx.Whole (b.take (Cx.mtch b).toNat):=by
 rcases Cx.row_bytes b hb h0 hl with ⟨x,e,_,r⟩ | ⟨x,y,e,_,r⟩ | ⟨x,y,z,e,_,r1,r2,r3,r4,r5,r6⟩ | ⟨x,y,z,u,e,_,r1,r2,r3,r4,r5,r6,r7,r8⟩
 ·exact .inl ⟨x,e,r⟩
 ·exact .inr (.inl ⟨x,y,e,r⟩)
 ·refine .inr (.inr (.inl ⟨x,y,z,e,r1,r2,?_,?_,r5,r6⟩))
  ·unfold Cx.rowLo at r3;repeat' split at r3
   all_goals omega
  ·unfold Cx.rowHi at r4;repeat' split at r4
   all_goals omega
 ·refine .inr (.inr (.inr ⟨x,y,z,u,e,r1,r2,?_,?_,r5,r6,r7,r8⟩))
  ·unfold Cx.rowLo at r3;repeat' split at r3
   all_goals omega
  ·unfold Cx.rowHi at r4;repeat' split at r4
   all_goals omega
set_option maxRecDepth 100000 in
theorem scalar_any (v:Value) (zs:List Int) (w:World) (h:Rd .u8 w v zs) (hw:Cx.Whole zs) :
  Calls Tryz.prog 179 #[v] w fun e w'=>e=.returned (.int .i64 (Cx.val zs))∧Below w.heap.size w w':=by
 obtain ⟨ao,cap,rfl,hl,hm,hc⟩:=h
 have hm':cap≤9223372036854775807:=hm
 clear hm
 rcases hw with ⟨x,rfl,r1,r2⟩ | ⟨x,y,rfl,r1,r2,r3,r4⟩ | ⟨x,y,z,rfl,r1,r2,r3,r4,r5,r6⟩ | ⟨x,y,z,u,rfl,r1,r2,r3,r4,r5,r6,r7,r8⟩
 ·obtain ⟨b,off,rfl,hbl,hc⟩:=hc (by simp)
  have h0:=hc 0 (by simp)
  simp at h0 hl
  clear hc
  simp only [List.length_cons,List.length_nil]
  go_enter Tryz.func179,Tryz.ntmps179
  go_wp2
  go_ret
  exact ⟨rfl,Below.refl _ _⟩
 ·obtain ⟨b,off,rfl,hbl,hc⟩:=hc (by simp)
  have h0:=hc 0 (by simp)
  have h1:=hc 1 (by simp)
  simp at h0 h1 hl
  clear hc
  simp only [List.length_cons,List.length_nil]
  go_enter Tryz.func179,Tryz.ntmps179
  go_wp2
  go_quiet (fail)
  go_wp2
  refine wp_loop_rounds 2 ?_
  rw [rounds_succ]
  go_wp2
  rw [rounds_succ]
  go_wp2
  go_ret
  refine ⟨ret_int' ?_,below_drewN (Below.refl _ _) _⟩
  rw [and31 (by omega) (by omega),wrap_small (by omega) (by omega),or6 (by omega) (by omega) (by omega) (by omega) (by omega)]
  simp only [Cx.val];omega
 ·obtain ⟨b,off,rfl,hbl,hc⟩:=hc (by simp)
  have h0:=hc 0 (by simp)
  have h1:=hc 1 (by simp)
  have h2:=hc 2 (by simp)
  simp at h0 h1 h2 hl
  rw [show off + 2=off + 1 + 1 from rfl] at h2
  clear hc
  simp only [List.length_cons,List.length_nil]
  go_enter Tryz.func179,Tryz.ntmps179
  go_wp2
  go_quiet (fail)
  go_wp2
  refine wp_loop_rounds 3 ?_
  rw [rounds_succ]
  go_wp2
  rw [rounds_succ]
  go_wp2
  rw [rounds_succ]
  go_wp2
  go_ret
  refine ⟨ret_int' ?_,below_drewN (Below.refl _ _) _⟩
  rw [and15 (by omega) (by omega),wrap_small (x:=x % 16 * 64) (by omega) (by omega),or6 (x:=x % 16 * 64) (by omega) (by omega) (by omega) (by omega) (by omega),wrap_small (by omega) (by omega),or6 (by omega) (by omega) (by omega) (by omega) (by omega)]
  simp only [Cx.val];omega
 ·obtain ⟨b,off,rfl,hbl,hc⟩:=hc (by simp)
  have h0:=hc 0 (by simp)
  have h1:=hc 1 (by simp)
  have h2:=hc 2 (by simp)
  have h3:=hc 3 (by simp)
  simp at h0 h1 h2 h3 hl
  rw [show off + 2=off + 1 + 1 from rfl] at h2
  rw [show off + 3=off + 1 + 2 from rfl] at h3
  clear hc
  simp only [List.length_cons,List.length_nil]
  go_enter Tryz.func179,Tryz.ntmps179
  go_wp2
  go_quiet (fail)
  go_wp2
  refine wp_loop_rounds 4 ?_
  rw [rounds_succ]
  go_wp2
  rw [rounds_succ]
  go_wp2
  rw [rounds_succ]
  go_wp2
  rw [rounds_succ]
  go_wp2
  go_ret
  refine ⟨ret_int' ?_,below_drewN (Below.refl _ _) _⟩
  rw [and7 (by omega) (by omega),wrap_small (x:=x % 8 * 64) (by omega) (by omega),or6 (x:=x % 8 * 64) (by omega) (by omega) (by omega) (by omega) (by omega),wrap_small (x:=(x % 8 * 64 + y % 64) * 64) (by omega) (by omega),or6 (x:=(x % 8 * 64 + y % 64) * 64) (by omega) (by omega) (by omega) (by omega) (by omega),wrap_small (by omega) (by omega),or6 (by omega) (by omega) (by omega) (by omega) (by omega)]
  simp only [Cx.val];omega
set_option maxRecDepth 100000 in
theorem first8_any (v:Value) (zs:List Int) (w:World) (h:Rd .u8 w v zs) (hb:Byt zs) (hn:zs≠[]) :
  Calls Tryz.prog 172 #[.agg #[],v] w fun e w'=>e=.returned (.tuple #[.int .i64 (Cx.first8 zs).1,.int .i64 (Cx.first8 zs).2])∧Below w.heap.size w w':=by
 have HR:Hid (Rd .u8 w v zs):=h
 have HB:Hid (Byt zs):=hb
 have HNE:Hid (zs≠[]):=hn
 have hlen:=h.len
 have hmb:=Cx.mtch_bd zs
 have hb0:=hb.at 0
 change 0≤Cx.c0 zs∧Cx.c0 zs≤255 at hb0
 obtain ⟨ao,cap,rfl,hl,hm,hc⟩:=h
 obtain ⟨b,off,rfl,hbl,hc⟩:=hc hn
 have hpos:0 < zs.length:=List.length_pos_iff.2 hn
 have h0:=hc 0 hpos
 rw [Nat.add_zero] at h0
 change w.cell? ⟨b,off,none⟩=some (.int .u8 (Cx.c0 zs)) at h0
 have h0':∀ o:Obj,(w.alloc o).cell? ⟨b,off,none⟩=some (.int .u8 (Cx.c0 zs)):=fun o=>((Below.refl w.heap.size w).alloc (Nat.le_refl _) o |>.cell (p:=⟨b,off,none⟩) hbl).trans h0
 clear hn hc hb hm
 by_cases hs:0 < Cx.mtch zs∧Cx.mtch zs≤zs.length
 ·have HW:Hid (Cx.Whole (zs.take (Cx.mtch zs).toNat)):=Cx.whole_of zs HB.out hs.1 hs.2
  have HE:Hid (Cx.first8 zs=(Cx.val (zs.take (Cx.mtch zs).toNat),Cx.mtch zs)):=by unfold Hid Cx.first8;rw [if_pos hs]
  have HT:Hid (Rd .u8 w (.slice (some ⟨b,off,none⟩) (Cx.mtch zs).toNat cap) (zs.take (Cx.mtch zs).toNat)):=HR.out.take _ (by omega)
  obtain ⟨hs1,hs2⟩:=hs
  go_enter Tryz.func172,Tryz.ntmps172
  go_wp2_with fail
  refine (match_any _ zs _ (HR.out.ext ((Below.refl _ _).alloc (Nat.le_refl _) _)) HB.out HNE.out).mono ?_
  rintro e w' ⟨rfl,rfl⟩
  go_wp2_with fail
  refine (scalar_any _ _ _ (HT.out.ext ((Below.refl _ _).alloc (Nat.le_refl _) _)) HW.out).mono ?_
  rintro e w1 ⟨rfl,hb1⟩
  go_wp2
  go_ret2
  exact ⟨by rw [HE.out];rfl,ext_trans ((Below.refl _ _).alloc (Nat.le_refl _) _) hb1⟩
 ·have HE:Hid (Cx.first8 zs=(-1 - Cx.c0 zs,1)):=by unfold Hid Cx.first8;rw [if_neg hs]
  by_cases hs1:0 < Cx.mtch zs
  ·have hs2:¬ Cx.mtch zs≤zs.length:=fun h=>hs ⟨hs1,h⟩
   clear hs
   go_enter Tryz.func172,Tryz.ntmps172
   go_wp2_with fail
   refine (match_any _ zs _ (HR.out.ext ((Below.refl _ _).alloc (Nat.le_refl _) _)) HB.out HNE.out).mono ?_
   rintro e w' ⟨rfl,rfl⟩
   go_wp2_with fail
   refine (rawAtom_any _ _ hb0.1 hb0.2).mono ?_
   rintro e w1 ⟨rfl,rfl⟩
   go_wp2
   go_ret2
   exact ⟨by rw [HE.out];rfl,(Below.refl _ _).alloc (Nat.le_refl _) _⟩
  ·clear hs
   go_enter Tryz.func172,Tryz.ntmps172
   go_wp2_with fail
   refine (match_any _ zs _ (HR.out.ext ((Below.refl _ _).alloc (Nat.le_refl _) _)) HB.out HNE.out).mono ?_
   rintro e w' ⟨rfl,rfl⟩
   go_wp2_with fail
   refine (rawAtom_any _ _ hb0.1 hb0.2).mono ?_
   rintro e w1 ⟨rfl,rfl⟩
   go_wp2
   go_ret2
   exact ⟨by rw [HE.out];rfl,(Below.refl _ _).alloc (Nat.le_refl _) _⟩
end Go.Proofs.YtjjfakokakamaaaGreat

namespace Go.Proofs.YtjjfakokakamaaaGreat
open Go.RowKit
def Cx.wv (k:Int) (zs:List Int):Int:=if k=0 then zs[1]?.getD 0 * 256 + zs[0]?.getD 0 else zs[0]?.getD 0 * 256 + zs[1]?.getD 0
theorem Cx.wv_bd (k:Int) (zs:List Int) (hb:Byt zs):0≤Cx.wv k zs∧Cx.wv k zs≤65535:=by
 have:=hb.at 0
 have:=hb.at 1
 unfold Cx.wv;split <;> omega
theorem or8 {x y:Int} (hx0:0≤x) (hx:x % 256=0) (hx1:x < 9223372036854775808) (h0:0≤y) (h1:y < 256):bits .or .i64 x y=x + y:=bits_join .i64 63 (by decide) wraps_i64 8 x y hx0 (by omega) (by omega) h0 (by omega) (by omega)
set_option maxRecDepth 100000 in
theorem unitW_any (k:Int) (v:Value) (zs:List Int) (w:World) (h:Rd .u8 w v zs) (hb:Byt zs) (hk:k=0∨k=1) (h2:2≤zs.length) :
  Calls Tryz.prog 195 #[.agg #[.int .i64 k],v] w fun e w'=>e=.returned (.int .i64 (Cx.wv k zs))∧∃ n,w'=(w.alloc (.cells #[.int .i64 k] 177)).drewN n:=by
 have hlen:=h.len
 obtain ⟨ao,cap,rfl,hl,hm,hc⟩:=h
 obtain ⟨b,off,rfl,hbl,hc⟩:=hc (List.length_pos_iff.1 (by omega))
 have h0:=hc 0 (by omega)
 have h1:=hc 1 (by omega)
 have hb0:=hb.at 0
 have hb1:=hb.at 1
 have HE:Hid (Cx.wv k zs=if k=0 then zs[1]?.getD 0 * 256 + zs[0]?.getD 0 else zs[0]?.getD 0 * 256 + zs[1]?.getD 0):=rfl
 generalize Cx.wv k zs=R at *
 generalize zs[0]?.getD 0=x at *
 generalize zs[1]?.getD 0=y at *
 rw [Nat.add_zero] at h0
 have h0':∀ o:Obj,(w.alloc o).cell? ⟨b,off,none⟩=some (.int .u8 x):=fun o=>((Below.refl w.heap.size w).alloc (Nat.le_refl _) o |>.cell (p:=⟨b,off,none⟩) hbl).trans h0
 have h1':∀ o:Obj,(w.alloc o).cell? ⟨b,off + 1,none⟩=some (.int .u8 y):=fun o=>((Below.refl w.heap.size w).alloc (Nat.le_refl _) o |>.cell (p:=⟨b,off + 1,none⟩) hbl).trans h1
 have hg0:(0:Int) < (zs.length:Int):=by omega
 have hg1:(1:Int) < (zs.length:Int):=by omega
 clear hc hb hm h0 h1
 rcases hk with rfl | rfl
 ·rw [if_pos rfl] at HE
  go_enter Tryz.func195,Tryz.ntmps195
  go_wp2
  go_quiet (fail)
  go_wp2
  go_ret
  refine ⟨ret_int' ?_,_,rfl⟩
  rw [HE.out]
  rw [or8 (by omega) (by omega) (by omega) (by omega) (by omega)]
 ·rw [if_neg (by omega)] at HE
  go_enter Tryz.func195,Tryz.ntmps195
  go_wp2
  go_quiet (fail)
  go_wp2
  go_ret
  refine ⟨ret_int' ?_,_,rfl⟩
  rw [HE.out]
  rw [or8 (by omega) (by omega) (by omega) (by omega) (by omega)]
def Cx.hiU (a:Int):Bool:=decide (55296≤a) && decide (a < 56320)
def Cx.loU (a:Int):Bool:=decide (56320≤a) && decide (a≤57343)
theorem isHigh_any (a:Int) (w:World):Calls Tryz.prog 197 #[.int .i64 a] w fun e w'=>e=.returned (.bool (Cx.hiU a))∧w'=w:=by
 unfold Cx.hiU
 by_cases h1:55296≤a
 ·go_enter Tryz.func197,Tryz.ntmps197
  go_wp2
  go_ret
  exact ⟨by rw [decide_eq_true h1,Bool.true_and];rfl,rfl⟩
 ·have hd:decide (55296≤a)=false:=by simp;omega
  go_enter Tryz.func197,Tryz.ntmps197
  go_wp2
  go_ret
  exact ⟨rfl,rfl⟩
theorem isLow_any (a:Int) (w:World):Calls Tryz.prog 198 #[.int .i64 a] w fun e w'=>e=.returned (.bool (Cx.loU a))∧w'=w:=by
 unfold Cx.loU
 by_cases h1:56320≤a
 ·go_enter Tryz.func198,Tryz.ntmps198
  go_wp2
  go_ret
  exact ⟨by rw [decide_eq_true h1,Bool.true_and];rfl,rfl⟩
 ·have hd:decide (56320≤a)=false:=by simp;omega
  go_enter Tryz.func198,Tryz.ntmps198
  go_wp2
  go_ret
  exact ⟨rfl,rfl⟩
theorem ext_alloc {a w:World} (h:Below a.heap.size a w) (o:Obj):Below a.heap.size a (w.alloc o):=h.alloc h.size o
theorem two_new {w w':World} {o o':Obj} {n:Nat} (h:w'=((w.alloc o).alloc o').drewN n):Below w.heap.size w w':=by
 subst h;exact below_drewN (((Below.refl _ _).alloc (Nat.le_refl _) _).alloc (by simp) _) _
theorem one_new {w w':World} {o:Obj} {n:Nat} (h:w'=(w.alloc o).drewN n):Below w.heap.size w w':=by
 subst h;exact below_drewN ((Below.refl _ _).alloc (Nat.le_refl _) _) _
theorem Rd.drop {k:IntKind} {w:World} {b off n cap:Nat} {zs:List Int} (h:Rd k w (.slice (some ⟨b,off,none⟩) n cap) zs) (m:Nat) (hm:m < zs.length):Rd k w (.slice (some ⟨b,off + m,none⟩) (n - m) (cap - m)) (zs.drop m):=by
 obtain ⟨ao',cap',hv,h1,h2,h3⟩:=h
 cases hv
 refine ⟨_,cap - m,by rw [List.length_drop],by rw [List.length_drop];omega,by omega,fun hn=>?_⟩
 obtain ⟨b',off',ha,hb,hc⟩:=h3 (fun h=>by rw [h] at hm;simp at hm)
 cases ha
 refine ⟨b,off + m,rfl,hb,fun i hi=>?_⟩
 rw [List.length_drop] at hi
 rw [Nat.add_assoc,hc (m + i) (by omega),List.getElem?_drop]
def Cx.isP (k:Int) (zs:List Int):Bool:=decide (4≤zs.length) && Cx.hiU (Cx.wv k zs) && Cx.loU (Cx.wv k (zs.drop 2))
set_option maxRecDepth 100000 in
set_option maxHeartbeats 1000000 in
theorem isPair_any (k:Int) (v:Value) (zs:List Int) (w:World) (h:Rd .u8 w v zs) (hb:Byt zs) (hk:k=0∨k=1) (h2:2≤zs.length) :
  Calls Tryz.prog 193 #[.agg #[.int .i64 k],v] w fun e w'=>e=.returned (.bool (Cx.isP k zs))∧Below w.heap.size w w':=by
 have HR:Hid (Rd .u8 w v zs):=h
 have HB:Hid (Byt zs):=hb
 have HK:Hid (k=0∨k=1):=hk
 have hlen:=h.len
 obtain ⟨ao,cap,rfl,hl,hm,hc⟩:=h
 obtain ⟨b,off,rfl,hbl,hc⟩:=hc (List.length_pos_iff.1 (by omega))
 clear hm hk hb
 by_cases h4:4≤zs.length
 ·have HD:Hid (Rd .u8 w (.slice (some ⟨b,off + 2,none⟩) (zs.length - 2) (cap - 2)) (zs.drop 2)):=HR.out.drop 2 (by omega)
  have hi4:(4:Int)≤(zs.length:Int):=by omega
  cases hH:Cx.hiU (Cx.wv k zs)
  ·have HE:Hid (Cx.isP k zs=false):=by unfold Hid Cx.isP;rw [hH,Bool.and_false,Bool.false_and]
   clear hc
   go_enter Tryz.func193,Tryz.ntmps193
   go_wp2_with fail
   first | go_region_with (first | (go_at_call 197;refine (isHigh_any _ _).mono ?_;rintro e w' ⟨rfl,rfl⟩;rw [hH]) | (go_at_call_of 195 (Value.slice (some { block:=b,off:=off }) zs.length cap);refine (unitW_any k _ zs _ ?_ HB.out HK.out h2).mono ?_;exact HR.out.ext ((Below.refl _ _).alloc (Nat.le_refl _) _).drew;rintro e w' ⟨rfl,n1,rfl⟩)) | fail
   all_goals
    go_wp2
    go_ret
    exact ⟨by rw [HE.out];rfl,(by repeat (first | exact Below.refl _ _ | apply below_drewN | refine ext_alloc ?_ _ | apply Below.drew))⟩
  ·cases hL:Cx.loU (Cx.wv k (zs.drop 2))
   ·have HE:Hid (Cx.isP k zs=false):=by unfold Hid Cx.isP;rw [hL,Bool.and_false]
    clear hc
    go_enter Tryz.func193,Tryz.ntmps193
    go_wp2_with fail
    first | go_region_with (first | (go_at_call 197;refine (isHigh_any _ _).mono ?_;rintro e w' ⟨rfl,rfl⟩;rw [hH]) | (go_at_call 198;refine (isLow_any _ _).mono ?_;rintro e w' ⟨rfl,rfl⟩;rw [hL]) | (go_at_call_of 195 (Value.slice (some { block:=b,off:=off }) zs.length cap);refine (unitW_any k _ zs _ ?_ HB.out HK.out h2).mono ?_;exact HR.out.ext ((Below.refl _ _).alloc (Nat.le_refl _) _).drew;rintro e w' ⟨rfl,n1,rfl⟩) | (go_at_call 195;refine (unitW_any k _ (zs.drop 2) _ ?_ (HB.out.drop 2) HK.out ?_).mono ?_;exact HD.out.ext (two_new rfl);(rw [List.length_drop];omega);rintro e w' ⟨rfl,n2,rfl⟩)) | fail
    all_goals
     go_wp2
     go_ret
     exact ⟨by rw [HE.out];rfl,(by repeat (first | exact Below.refl _ _ | apply below_drewN | refine ext_alloc ?_ _ | apply Below.drew))⟩
   ·have HE:Hid (Cx.isP k zs=true):=by unfold Hid Cx.isP;rw [hH,hL,decide_eq_true h4];rfl
    clear hc
    go_enter Tryz.func193,Tryz.ntmps193
    go_wp2_with fail
    first | go_region_with (first | (go_at_call 197;refine (isHigh_any _ _).mono ?_;rintro e w' ⟨rfl,rfl⟩;rw [hH]) | (go_at_call 198;refine (isLow_any _ _).mono ?_;rintro e w' ⟨rfl,rfl⟩;rw [hL]) | (go_at_call_of 195 (Value.slice (some { block:=b,off:=off }) zs.length cap);refine (unitW_any k _ zs _ ?_ HB.out HK.out h2).mono ?_;exact HR.out.ext ((Below.refl _ _).alloc (Nat.le_refl _) _).drew;rintro e w' ⟨rfl,n1,rfl⟩) | (go_at_call 195;refine (unitW_any k _ (zs.drop 2) _ ?_ (HB.out.drop 2) HK.out ?_).mono ?_;exact HD.out.ext (two_new rfl);(rw [List.length_drop];omega);rintro e w' ⟨rfl,n2,rfl⟩)) | fail
    all_goals
     go_wp2
     go_ret
     exact ⟨by rw [HE.out];rfl,(by repeat (first | exact Below.refl _ _ | apply below_drewN | refine ext_alloc ?_ _ | apply Below.drew))⟩
 ·have HE:Hid (Cx.isP k zs=false):=by unfold Hid Cx.isP;rw [decide_eq_false h4];rfl
  have hd:decide ((4:Int)≤(zs.length:Int))=false:=by simp;omega
  clear hc
  go_enter Tryz.func193,Tryz.ntmps193
  go_wp2
  go_quiet (fail)
  go_wp2
  go_ret
  exact ⟨by rw [HE.out];rfl,(by repeat (first | exact Below.refl _ _ | apply below_drewN | refine ext_alloc ?_ _ | apply Below.drew))⟩
end Go.Proofs.YtjjfakokakamaaaGreat

namespace Go.Proofs.YtjjfakokakamaaaGreat
open Go.RowKit
theorem and63 {x:Int} (h0:0≤x) (h1:x < 9223372036854775808):bits .and .i64 x 63=x % 64:=bits_mask .i64 63 (by decide) wraps_i64 6 (by decide) x h0 (by omega)
theorem orJ (i:Nat) {x y:Int} (hx0:0≤x) (hx:x % 2 ^ i=0) (hx1:x < 9223372036854775808) (h0:0≤y) (h1:y < 2 ^ i) (h2:y < 9223372036854775808):bits .or .i64 x y=x + y:=bits_join .i64 63 (by decide) wraps_i64 i x y hx0 hx (by omega) h0 h1 (by omega)
theorem further_any (r:Int) (w:World) (h0:0≤r) (h1:r≤1114111):Calls Tryz.prog 182 #[.int .i64 r] w fun e w'=>e=.returned (.int .u8 (128 + r % 64))∧w'=w:=by
 have e1:bits .and .i64 r 63=r % 64:=and63 h0 (by omega)
 have e2:bits .or .i64 128 (r % 64)=128 + r % 64:=orJ 6 (by omega) (by decide) (by omega) (by omega) (by omega) (by omega)
 go_enter Tryz.func182,Tryz.ntmps182
 go_wp2
 go_ret
 exact ⟨ret_int' (by omega),rfl⟩
theorem rawByte_any (a:Int) (w:World) (h0:-256≤a) (h1:a≤-1):Calls Tryz.prog 181 #[.int .i64 a] w fun e w'=>e=.returned (.int .u8 (-1 - a))∧w'=w:=by
 go_enter Tryz.func181,Tryz.ntmps181
 go_wp2
 go_ret
 exact ⟨rfl,rfl⟩
theorem cell_lit1 (w:World) (o:Obj) (e:TypeId) (cs:List Value):∀ j u,cs[j]?=some u→((w.alloc o).alloc (.cells cs.toArray e)).cell? ((⟨w.heap.size + 1,0,none⟩:Addr).add j)=some u:=by
 intro j u hu
 have h:((w.alloc o).alloc (.cells cs.toArray e)).heap[w.heap.size + 1]?=some (.cells cs.toArray e):=by
  have:=heap_alloc_new (w.alloc o) (.cells cs.toArray e)
  rwa [World.size_alloc] at this
 have hadd:(⟨w.heap.size + 1,0,none⟩:Addr).add j=⟨w.heap.size + 1,j,none⟩:=by unfold Addr.add;split <;> simp_all
 rw [hadd,cell_of_row _ _ j _ _ _ h]
 simpa using hu
theorem below_put {base:Nat} {w w':World} {o o':Obj} {out:Value} {n:Nat} (hbase:base≤w.heap.size) (hlt:∀ k,out.ownBlock=some k→base≤k∧k < n) (hg:((w.alloc o).alloc o').grownBy w' out.ownBlock):Below base w w' :=
 (((Below.refl base w).alloc hbase o).alloc (by simp;omega) o').grown hg (by simp;omega) (fun k hk=>(hlt k hk).1)
theorem below_put3 {base:Nat} {w w':World} {o o' o'':Obj} {out:Value} {n:Nat} (hbase:base≤w.heap.size) (hlt:∀ k,out.ownBlock=some k→base≤k∧k < n) (hg:(((w.alloc o).alloc o').alloc o'').grownBy w' out.ownBlock):Below base w w' :=
 ((((Below.refl base w).alloc hbase o).alloc (by simp;omega) o').alloc (by simp;omega) o'').grown hg (by simp;omega) (fun k hk=>(hlt k hk).1)
theorem grown_put3 {w w':World} {o o' o'':Obj} {row:Option Nat} (hg:(((w.alloc o).alloc o').alloc o'').grownBy w' row):w.grownBy w' row :=
 ⟨hg.os,hg.tape,hg.output,by have:=hg.size;simp at this;omega,fun k hk hne=>by
  rw [hg.block k (by simp;omega) hne,Below.heap_alloc _ _ _ (by simp;omega),Below.heap_alloc _ _ _ (by simp;omega),Below.heap_alloc _ _ _ hk]⟩
theorem ones_u8 (bs:List Int):∀ u ∈ bs.map (Value.int .u8),u.oneCell'=true:=by
 intro u hu
 obtain ⟨_,_,rfl⟩:=List.mem_map.1 hu
 rfl
set_option maxRecDepth 100000 in
theorem put1_any (out:Value) (xs:List Int) (base:Nat) (a:Int) (w:World) (hown:w.ownsRow base 5 1 out xs.length (xs.map (Value.int .u8))) (hbase:base≤w.heap.size) (hl:xs.length + 4≤140737488355328) (hf:Cx.fits 1 a=true) :
  Calls Tryz.prog 175 #[.agg #[],out,.int .i64 a] w fun e w'=>∃ v',e=.returned v'∧w'.ownsRow base 5 1 v' (xs ++ Cx.put 1 a).length ((xs ++ Cx.put 1 a).map (Value.int .u8))∧Below base w w':=by
 obtain ⟨i0,hi,hz0,hz1,hz2⟩:=info_parts Tryz.info_u8
 have hfr:(-256≤a∧a≤-129)∨(0≤a∧a≤1114111):=by
  unfold Cx.fits Cx.isSc at hf
  simp at hf
  omega
 have hlt:=hown.lt
 clear hf
 rcases (show (-256≤a∧a≤-129)∨(0≤a∧a < 128)∨(128≤a∧a < 2048)∨(2048≤a∧a < 65536)∨(65536≤a∧a≤1114111) from by omega) with ⟨h1,h2⟩ | ⟨h1,h2⟩ | ⟨h1,h2⟩ | ⟨h1,h2⟩ | ⟨h1,h2⟩
 ·have HE:Hid (Cx.put 1 a=[-1 - a]):=by unfold Hid Cx.put;rw [if_pos (by omega)]
  clear hfr
  go_enter Tryz.func175,Tryz.ntmps175
  go_wp2_with (first | (go_at_call 181;refine (rawByte_any _ _ (by omega) (by omega)).mono ?_;rintro e w' ⟨rfl,rfl⟩) | (at_builtin;refine wpList_append_own _ rfl _ _ 32 rfl base 5 i0 (.int .u8 0) 1 1 Tryz.underlying32 hi hz0 hz1 hz2 rfl (by decide) _ _ _ rfl ((hown.alloc _).alloc _) ⟨w.heap.size + 1,0,none⟩ 1 1 ([-1 - a].map (Value.int .u8)) rfl rfl (cell_lit1 _ _ _ _) (ones_u8 _) (by unfold maxLen;omega) (by omega) (by simp;omega) ?_;intro v' w' hown' hg' hx'))
  go_ret
  exact ⟨_,rfl,by rw [HE.out,List.length_append,List.map_append];exact hown',below_put hbase hlt hg'⟩
 ·have HE:Hid (Cx.put 1 a=[a]):=by unfold Hid Cx.put Cx.put8;rw [if_neg (by omega),if_pos rfl,if_pos h2]
  clear hfr
  go_enter Tryz.func175,Tryz.ntmps175
  go_wp2_with (first | (at_builtin;refine wpList_append_own _ rfl _ _ 32 rfl base 5 i0 (.int .u8 0) 1 1 Tryz.underlying32 hi hz0 hz1 hz2 rfl (by decide) _ _ _ rfl ((hown.alloc _).alloc _) ⟨w.heap.size + 1,0,none⟩ 1 1 ([a].map (Value.int .u8)) rfl rfl (cell_lit1 _ _ _ _) (ones_u8 _) (by unfold maxLen;omega) (by omega) (by simp;omega) ?_;intro v' w' hown' hg' hx'))
  go_ret
  exact ⟨_,rfl,by rw [HE.out,List.length_append,List.map_append];exact hown',below_put hbase hlt hg'⟩
 ·have HE:Hid (Cx.put 1 a=[192 + a / 64,128 + a % 64]):=by unfold Hid Cx.put Cx.put8;rw [if_neg (by omega),if_pos rfl,if_neg (by omega),if_pos h2]
  have e1:bits .or .i64 192 (a / 64)=192 + a / 64:=orJ 5 (by omega) (by decide) (by omega) (by omega) (by omega) (by omega)
  clear hfr
  go_enter Tryz.func175,Tryz.ntmps175
  go_wp2_with (first | (go_at_call 182;refine (further_any _ _ (by omega) (by omega)).mono ?_;rintro e wf ⟨rfl,rfl⟩) | (at_builtin;refine wpList_append_own _ rfl _ _ 32 rfl base 5 i0 (.int .u8 0) 1 1 Tryz.underlying32 hi hz0 hz1 hz2 rfl (by decide) _ _ _ rfl ((hown.alloc _).alloc _) ⟨w.heap.size + 1,0,none⟩ 2 2 ([192 + a / 64,128 + a % 64].map (Value.int .u8)) rfl rfl (cell_lit1 _ _ _ _) (ones_u8 _) (by unfold maxLen;omega) (by omega) (by simp;omega) ?_;intro v' w' hown' hg' hx'))
  go_ret
  exact ⟨_,rfl,by rw [HE.out,List.length_append,List.map_append];exact hown',below_put hbase hlt hg'⟩
 ·have HE:Hid (Cx.put 1 a=[224 + a / 4096,128 + a / 64 % 64,128 + a % 64]):=by unfold Hid Cx.put Cx.put8;rw [if_neg (by omega),if_pos rfl,if_neg (by omega),if_neg (by omega),if_pos h2]
  have e1:bits .or .i64 224 (a / 4096)=224 + a / 4096:=orJ 4 (by omega) (by decide) (by omega) (by omega) (by omega) (by omega)
  clear hfr
  go_enter Tryz.func175,Tryz.ntmps175
  go_wp2_with (first | (go_at_call 182;refine (further_any _ _ (by omega) (by omega)).mono ?_;rintro e wf ⟨rfl,rfl⟩) | (at_builtin;refine wpList_append_own _ rfl _ _ 32 rfl base 5 i0 (.int .u8 0) 1 1 Tryz.underlying32 hi hz0 hz1 hz2 rfl (by decide) _ _ _ rfl ((hown.alloc _).alloc _) ⟨w.heap.size + 1,0,none⟩ 3 3 ([224 + a / 4096,128 + a / 64 % 64,128 + a % 64].map (Value.int .u8)) rfl rfl (cell_lit1 _ _ _ _) (ones_u8 _) (by unfold maxLen;omega) (by omega) (by simp;omega) ?_;intro v' w' hown' hg' hx'))
  go_ret
  exact ⟨_,rfl,by rw [HE.out,List.length_append,List.map_append];exact hown',below_put hbase hlt hg'⟩
 ·have HE:Hid (Cx.put 1 a=[240 + a / 262144,128 + a / 4096 % 64,128 + a / 64 % 64,128 + a % 64]):=by unfold Hid Cx.put Cx.put8;rw [if_neg (by omega),if_pos rfl,if_neg (by omega),if_neg (by omega),if_neg (by omega)]
  have e1:bits .or .i64 240 (a / 262144)=240 + a / 262144:=orJ 4 (by omega) (by decide) (by omega) (by omega) (by omega) (by omega)
  clear hfr
  go_enter Tryz.func175,Tryz.ntmps175
  go_wp2_with (first | (go_at_call 182;refine (further_any _ _ (by omega) (by omega)).mono ?_;rintro e wf ⟨rfl,rfl⟩) | (at_builtin;refine wpList_append_own _ rfl _ _ 32 rfl base 5 i0 (.int .u8 0) 1 1 Tryz.underlying32 hi hz0 hz1 hz2 rfl (by decide) _ _ _ rfl ((hown.alloc _).alloc _) ⟨w.heap.size + 1,0,none⟩ 4 4 ([240 + a / 262144,128 + a / 4096 % 64,128 + a / 64 % 64,128 + a % 64].map (Value.int .u8)) rfl rfl (cell_lit1 _ _ _ _) (ones_u8 _) (by unfold maxLen;omega) (by omega) (by simp;omega) ?_;intro v' w' hown' hg' hx'))
  go_ret
  exact ⟨_,rfl,by rw [HE.out,List.length_append,List.map_append];exact hown',below_put hbase hlt hg'⟩
set_option maxRecDepth 100000 in
theorem put4_any (out:Value) (xs:List Int) (base:Nat) (a:Int) (w:World) (hown:w.ownsRow base 5 1 out xs.length (xs.map (Value.int .u8))) (hbase:base≤w.heap.size) (hl:xs.length + 4≤140737488355328) (hf:Cx.fits 4 a=true) :
  Calls Tryz.prog 202 #[.agg #[],out,.int .i64 a] w fun e w'=>∃ v',e=.returned v'∧w'.ownsRow base 5 1 v' (xs ++ Cx.put 4 a).length ((xs ++ Cx.put 4 a).map (Value.int .u8))∧Below base w w':=by
 obtain ⟨i0,hi,hz0,hz1,hz2⟩:=info_parts Tryz.info_u8
 have hfr:0≤a∧a≤255:=by
  unfold Cx.fits at hf
  simp at hf
  omega
 obtain ⟨h1,h2⟩:=hfr
 have hlt:=hown.lt
 have HE:Hid (Cx.put 4 a=[a]):=by unfold Hid Cx.put;rw [if_neg (by omega)];rfl
 clear hf
 go_enter Tryz.func202,Tryz.ntmps202
 go_wp2_with (at_builtin;refine wpList_append_own _ rfl _ _ 32 rfl base 5 i0 (.int .u8 0) 1 1 Tryz.underlying32 hi hz0 hz1 hz2 rfl (by decide) _ _ _ rfl ((hown.alloc _).alloc _) ⟨w.heap.size + 1,0,none⟩ 1 1 ([a].map (Value.int .u8)) rfl rfl (cell_lit1 _ _ _ _) (ones_u8 _) (by unfold maxLen;omega) (by omega) (by simp;omega) ?_;intro v' w' hown' hg' hx')
 go_ret
 exact ⟨_,rfl,by rw [HE.out,List.length_append,List.map_append];exact hown',below_put hbase hlt hg'⟩
theorem cell_lit2 (w:World) (o o':Obj) (e:TypeId) (cs:List Value):∀ j u,cs[j]?=some u→(((w.alloc o).alloc o').alloc (.cells cs.toArray e)).cell? ((⟨w.heap.size + 1 + 1,0,none⟩:Addr).add j)=some u:=by
 have h:=cell_lit1 (w.alloc o) o' e cs
 rwa [World.size_alloc] at h
set_option maxRecDepth 100000 in
theorem putUnit_any (k:Int) (hk:k=0∨k=1) (out:Value) (xs:List Int) (base:Nat) (u:Int) (w:World) (hown:w.ownsRow base 5 1 out xs.length (xs.map (Value.int .u8))) (hbase:base≤w.heap.size) (hl:xs.length + 4≤140737488355328) (h0:0≤u) (h1:u≤65535) :
  Calls Tryz.prog 196 #[.agg #[.int .i64 k],out,.int .i64 u] w fun e w'=>∃ v',e=.returned v'∧w'.ownsRow base 5 1 v' (xs ++ Cx.unit (k + 2) u).length ((xs ++ Cx.unit (k + 2) u).map (Value.int .u8))∧Below base w w'∧w.grownBy w' out.ownBlock:=by
 obtain ⟨i0,hi,hz0,hz1,hz2⟩:=info_parts Tryz.info_u8
 have hlt:=hown.lt
 rcases hk with rfl | rfl
 ·have HE:Hid (Cx.unit (0 + 2) u=[u % 256,u / 256]):=rfl
  go_enter Tryz.func196,Tryz.ntmps196
  go_wp2_with (at_builtin;refine wpList_append_own _ rfl _ _ 32 rfl base 5 i0 (.int .u8 0) 1 1 Tryz.underlying32 hi hz0 hz1 hz2 rfl (by decide) _ _ _ rfl (((hown.alloc _).alloc _).alloc _) ⟨w.heap.size + 1 + 1,0,none⟩ 2 2 ([u % 256,u / 256].map (Value.int .u8)) rfl rfl (cell_lit2 _ _ _ _ _) (ones_u8 _) (by unfold maxLen;omega) (by omega) (by simp;omega) ?_;intro v' w' hown' hg' hx')
  go_ret
  exact ⟨_,rfl,by rw [HE.out,List.length_append,List.map_append];exact hown',below_put3 hbase hlt hg',grown_put3 hg'⟩
 ·have HE:Hid (Cx.unit (1 + 2) u=[u / 256,u % 256]):=rfl
  go_enter Tryz.func196,Tryz.ntmps196
  go_wp2_with (at_builtin;refine wpList_append_own _ rfl _ _ 32 rfl base 5 i0 (.int .u8 0) 1 1 Tryz.underlying32 hi hz0 hz1 hz2 rfl (by decide) _ _ _ rfl (((hown.alloc _).alloc _).alloc _) ⟨w.heap.size + 1 + 1,0,none⟩ 2 2 ([u / 256,u % 256].map (Value.int .u8)) rfl rfl (cell_lit2 _ _ _ _ _) (ones_u8 _) (by unfold maxLen;omega) (by omega) (by simp;omega) ?_;intro v' w' hown' hg' hx')
  go_ret
  exact ⟨_,rfl,by rw [HE.out,List.length_append,List.map_append];exact hown',below_put3 hbase hlt hg',grown_put3 hg'⟩
set_option maxRecDepth 100000 in
theorem put2_any (k:Int) (hk:k=0∨k=1) (out:Value) (xs:List Int) (base:Nat) (a:Int) (w:World) (hown:w.ownsRow base 5 1 out xs.length (xs.map (Value.int .u8))) (hbase:base≤w.heap.size) (hl:xs.length + 8≤140737488355328) (hf:Cx.fits (k + 2) a=true) :
  Calls Tryz.prog 190 #[.agg #[.int .i64 k],out,.int .i64 a] w fun e w'=>∃ v',e=.returned v'∧w'.ownsRow base 5 1 v' (xs ++ Cx.put (k + 2) a).length ((xs ++ Cx.put (k + 2) a).map (Value.int .u8))∧Below base w w':=by
 obtain ⟨i0,hi,hz0,hz1,hz2⟩:=info_parts Tryz.info_u8
 have hfr:-256≤a∧a≤1114111:=by
  unfold Cx.fits at hf
  rcases hk with rfl | rfl <;> simp at hf <;> omega
 obtain ⟨h1,h2⟩:=hfr
 have hlt:=hown.lt
 have HK:Hid (k=0∨k=1):=hk
 clear hf
 rcases (show a < 0∨(0≤a∧a < 65536)∨65536≤a from by omega) with h3 | ⟨h3,h4⟩ | h3
 ·have HE:Hid (Cx.put (k + 2) a=[-1 - a]):=by unfold Hid Cx.put;rw [if_pos h3]
  clear hk
  go_enter Tryz.func190,Tryz.ntmps190
  go_wp2_with (first | (go_at_call 181;refine (rawByte_any _ _ (by omega) (by omega)).mono ?_;rintro e w' ⟨rfl,rfl⟩) | (at_builtin;refine wpList_append_own _ rfl _ _ 32 rfl base 5 i0 (.int .u8 0) 1 1 Tryz.underlying32 hi hz0 hz1 hz2 rfl (by decide) _ _ _ rfl ((hown.alloc _).alloc _) ⟨w.heap.size + 1,0,none⟩ 1 1 ([-1 - a].map (Value.int .u8)) rfl rfl (cell_lit1 _ _ _ _) (ones_u8 _) (by unfold maxLen;omega) (by omega) (by simp;omega) ?_;intro v' w' hown' hg' hx'))
  go_ret
  exact ⟨_,rfl,by rw [HE.out,List.length_append,List.map_append];exact hown',below_put hbase hlt hg'⟩
 ·have HE:Hid (Cx.put (k + 2) a=Cx.unit (k + 2) a):=by
   unfold Hid Cx.put;rw [if_neg (by omega),if_neg (by omega),if_neg (by omega),if_neg (by omega)]
  clear hk
  go_enter Tryz.func190,Tryz.ntmps190
  go_wp2_with fail
  refine (putUnit_any k HK.out _ xs base a _ (hown.alloc _) (by simp;omega) (by omega) h3 (by omega)).mono ?_
  rintro e w1 ⟨v1,rfl,hown1,hb1,hg1⟩
  have HO:Hid (w1.ownsRow base 5 1 v1 (xs ++ Cx.put (k + 2) a).length ((xs ++ Cx.put (k + 2) a).map (Value.int .u8))):=by rw [HE.out];exact hown1
  clear hown1 hg1
  go_wp2
  go_ret
  exact ⟨_,rfl,HO.out,((Below.refl base w).alloc hbase _).trans hb1⟩
 ·have HE:Hid (xs ++ Cx.put (k + 2) a=(xs ++ Cx.unit (k + 2) (55296 + (a - 65536) / 1024)) ++ Cx.unit (k + 2) (56320 + (a - 65536) % 1024)):=by
   unfold Hid Cx.put;rw [if_neg (by omega),if_neg (by omega),if_neg (by omega),if_pos h3,List.append_assoc,show (a - 65536) % 1024=a % 1024 from by omega]
  clear hk
  go_enter Tryz.func190,Tryz.ntmps190
  go_wp2_with fail
  refine (putUnit_any k HK.out _ xs base _ _ (hown.alloc _) (by simp;omega) (by omega) (by omega) (by omega)).mono ?_
  rintro e w1 ⟨v1,rfl,hown1,hb1,hg1⟩
  have hul:(xs ++ Cx.unit (k + 2) (55296 + (a - 65536) / 1024)).length=xs.length + 2:=by rw [List.length_append,Cx.unit_eq];rfl
  have hcb:w1.cell? ⟨w.heap.size,0,none⟩=some (.int .i64 k):=by
   rw [World.cell?_of_block (w:=w.alloc (.cells #[.int .i64 k] 177)) (hg1.block w.heap.size (by simp) (by intro e;have:=hlt _ e.symm;omega))]
   simp
  have hb1':Hid (Below base (w.alloc (.cells #[.int .i64 k] 177)) w1):=hb1
  have hsz:base≤w1.heap.size:=by have:=hb1.size;simp at this;omega
  clear hb1 hg1
  go_wp2_with fail
  refine (putUnit_any k HK.out _ _ base _ _ hown1 hsz (by rw [hul];omega) (by omega) (by omega)).mono ?_
  rintro e w2 ⟨v2,rfl,hown2,hb2,hg2⟩
  have HO:Hid (w2.ownsRow base 5 1 v2 (xs ++ Cx.put (k + 2) a).length ((xs ++ Cx.put (k + 2) a).map (Value.int .u8))):=by rw [HE.out];exact hown2
  clear hown2 hown1 hg2
  go_wp2
  go_ret
  exact ⟨_,rfl,HO.out,((Below.refl base w).alloc hbase _).trans (hb1'.out.trans hb2)⟩
end Go.Proofs.YtjjfakokakamaaaGreat

namespace Go.Proofs.YtjjfakokakamaaaGreat.Cx
def mean (zs:List Int):Int:=match zs with
 | [a]=>a
 | [a,b]=>(a - 192) * 64 + b - 128
 | [a,b,c]=>((a - 224) * 64 + b - 128) * 64 + c - 128
 | [a,b,c,d]=>(((a - 240) * 64 + b - 128) * 64 + c - 128) * 64 + d - 128
 | _=>0
def hitB (b:List Int) (k:Nat):Bool:=decide (k≤b.length) && isSc (mean (b.take k)) && decide ((put8 (mean (b.take k))).length=k) && (put8 (mean (b.take k))).isPrefixOf b
theorem sc_iff (a:Int):isSc a=true ↔ (0≤a∧a < 55296)∨(57343 < a∧a≤1114111):=by
 unfold isSc;simp
theorem put8_one (a:Int) (h:(put8 a).length=1):a < 128:=by
 unfold put8 at h;repeat' split at h
 all_goals first | assumption | simp at h
theorem put8_two (a:Int) (h:(put8 a).length=2):128≤a∧a < 2048:=by
 unfold put8 at h;repeat' split at h
 all_goals first | (simp at h;done) | omega
theorem put8_three (a:Int) (h:(put8 a).length=3):2048≤a∧a < 65536:=by
 unfold put8 at h;repeat' split at h
 all_goals first | (simp at h;done) | omega
theorem put8_four (a:Int) (h:(put8 a).length=4):65536≤a:=by
 unfold put8 at h;repeat' split at h
 all_goals first | (simp at h;done) | omega
theorem put8_1 (a:Int) (h:a < 128):put8 a=[a]:=by unfold put8;rw [if_pos h]
theorem put8_2 (a:Int) (h:128≤a) (h':a < 2048):put8 a=[192 + a / 64,128 + a % 64]:=by unfold put8;rw [if_neg (by omega),if_pos h']
theorem put8_3 (a:Int) (h:2048≤a) (h':a < 65536):put8 a=[224 + a / 4096,128 + a / 64 % 64,128 + a % 64]:=by unfold put8;rw [if_neg (by omega),if_neg (by omega),if_pos h']
theorem put8_4 (a:Int) (h:65536≤a):put8 a=[240 + a / 262144,128 + a / 4096 % 64,128 + a / 64 % 64,128 + a % 64]:=by unfold put8;rw [if_neg (by omega),if_neg (by omega),if_neg (by omega)]
theorem mtch_eq (b:List Int):mtch b=if okAll b=true then rowN (c0 b) else 0:=rfl
theorem hitB_iff (b:List Int) (k:Nat) (m:Int) (hm:mean (b.take k)=m):hitB b k=true ↔ (k≤b.length∧isSc m=true∧(put8 m).length=k∧(put8 m).isPrefixOf b=true):=by
 subst hm
 unfold hitB
 simp only [Bool.and_eq_true,decide_eq_true_eq,and_assoc]
theorem ok_j (b:List Int) (j:Nat) (x:Int) (hx:b[j]?=some x) (h:loJ (c0 b) j≤x∧x≤hiJ (c0 b) j):okAt b j=true:=okAt_of b j (by rw [hx];exact h)
theorem hit1 (x:Int) (l:List Int) (hx:0≤x∧x≤255):hitB (x :: l) 1=true ↔ mtch (x :: l)=1:=by
 have e:mtch (x :: l)=1 ↔ x≤127:=by
  have c:c0 (x :: l)=x:=rfl
  constructor
  ·intro h
   rw [mtch_eq,c] at h
   split at h
   ·unfold rowN at h;repeat' split at h
    all_goals omega
   ·omega
  ·intro h
   have r:rowN x=1:=by unfold rowN;rw [if_pos h]
   rw [mtch_yes (x :: l) 1 (fun j h1 h2=>by omega) (.inl (by rw [c,r];decide)),c,r]
 rw [e,hitB_iff _ _ x rfl]
 constructor
 ·rintro ⟨_,_,h,_⟩
  have:=put8_one x h
  omega
 ·intro h
  rw [put8_1 x (by omega),sc_iff]
  exact ⟨by simp,.inl ⟨hx.1,by omega⟩,rfl,by simp⟩
theorem hit2 (x y:Int) (l:List Int) (hb:∀ z ∈ x :: y :: l,0≤z∧z≤255):hitB (x :: y :: l) 2=true ↔ mtch (x :: y :: l)=2:=by
 have hx:=hb x (by simp)
 have hy:=hb y (by simp)
 have e:mtch (x :: y :: l)=2 ↔ 194≤x∧x≤223∧128≤y∧y≤191:=by
  have c:c0 (x :: y :: l)=x:=rfl
  constructor
  ·intro h
   rcases row_bytes (x :: y :: l) hb (by omega) (by rw [h];simp only [List.length_cons];omega) with ⟨a,e,h',_⟩ | ⟨a,b,e,h',r⟩ | ⟨a,b,d,e,h',_⟩ | ⟨a,b,d,f,e,h',_⟩
   ·omega
   ·rw [h] at e
    have e':[x,y]=[a,b]:=e
    cases e'
    omega
   ·omega
   ·omega
  ·intro h
   have r:rowN x=2:=by unfold rowN;repeat' split <;> omega
   rw [mtch_yes (x :: y :: l) 2 (fun j h1 h2=>?_) (.inl (by rw [c,r];decide)),c,r]
   obtain rfl:j=1:=by omega
   refine ok_j _ _ y rfl ?_
   unfold loJ hiJ rowLo rowHi
   rw [c,if_pos rfl,if_pos rfl]
   repeat' split
   all_goals omega
 rw [e,hitB_iff _ _ ((x - 192) * 64 + y - 128) rfl]
 constructor
 ·rintro ⟨_,_,h,hp⟩
  have:=put8_two _ h
  rw [put8_2 _ this.1 this.2] at hp
  simp at hp
  omega
 ·intro h
  rw [put8_2 _ (by omega) (by omega),sc_iff]
  refine ⟨by simp,.inl ⟨by omega,by omega⟩,rfl,?_⟩
  simp
  omega
theorem hit3 (x y z:Int) (l:List Int) (hb:∀ u ∈ x :: y :: z :: l,0≤u∧u≤255):hitB (x :: y :: z :: l) 3=true ↔ mtch (x :: y :: z :: l)=3:=by
 have hx:=hb x (by simp)
 have hy:=hb y (by simp)
 have hz:=hb z (by simp)
 have e:mtch (x :: y :: z :: l)=3 ↔ 224≤x∧x≤239∧128≤y∧y≤191∧(x=224→160≤y)∧(x=237→y≤159)∧128≤z∧z≤191:=by
  have c:c0 (x :: y :: z :: l)=x:=rfl
  constructor
  ·intro h
   rcases row_bytes (x :: y :: z :: l) hb (by omega) (by rw [h];simp only [List.length_cons];omega) with ⟨a,e,h',_⟩ | ⟨a,b,e,h',r⟩ | ⟨a,b,d,e,h',r1,r2,r3,r4,r5⟩ | ⟨a,b,d,f,e,h',_⟩
   ·omega
   ·omega
   ·rw [h] at e
    have e':[x,y,z]=[a,b,d]:=e
    cases e'
    unfold rowLo at r3;unfold rowHi at r4
    repeat' split at r3
    all_goals repeat' split at r4
    all_goals omega
   ·omega
  ·intro h
   have r:rowN x=3:=by unfold rowN;repeat' split <;> omega
   rw [mtch_yes (x :: y :: z :: l) 3 (fun j h1 h2=>?_) (.inl (by rw [c,r];decide)),c,r]
   have hj:j=1∨j=2:=by omega
   rcases hj with rfl | rfl
   ·refine ok_j _ _ y rfl ?_
    unfold loJ hiJ rowLo rowHi
    rw [c,if_pos rfl,if_pos rfl]
    repeat' split
    all_goals omega
   ·refine ok_j _ _ z rfl ?_
    unfold loJ hiJ
    rw [if_neg (by decide),if_neg (by decide)]
    omega
 rw [e,hitB_iff _ _ (((x - 224) * 64 + y - 128) * 64 + z - 128) rfl]
 constructor
 ·rintro ⟨_,hs,h,hp⟩
  have:=put8_three _ h
  rw [put8_3 _ this.1 this.2] at hp
  rw [sc_iff] at hs
  simp at hp
  omega
 ·intro h
  rw [put8_3 _ (by omega) (by omega),sc_iff]
  refine ⟨by simp,by omega,rfl,?_⟩
  simp
  omega
theorem hit4 (x y z u:Int) (l:List Int) (hb:∀ v ∈ x :: y :: z :: u :: l,0≤v∧v≤255):hitB (x :: y :: z :: u :: l) 4=true ↔ mtch (x :: y :: z :: u :: l)=4:=by
 have hx:=hb x (by simp)
 have hy:=hb y (by simp)
 have hz:=hb z (by simp)
 have hu:=hb u (by simp)
 have e:mtch (x :: y :: z :: u :: l)=4 ↔ 240≤x∧x≤244∧128≤y∧y≤191∧(x=240→144≤y)∧(x=244→y≤143)∧128≤z∧z≤191∧128≤u∧u≤191:=by
  have c:c0 (x :: y :: z :: u :: l)=x:=rfl
  constructor
  ·intro h
   rcases row_bytes (x :: y :: z :: u :: l) hb (by omega) (by rw [h];simp only [List.length_cons];omega) with ⟨a,e,h',_⟩ | ⟨a,b,e,h',r⟩ | ⟨a,b,d,e,h',r⟩ | ⟨a,b,d,f,e,h',r1,r2,r3,r4,r5⟩
   ·omega
   ·omega
   ·omega
   ·rw [h] at e
    have e':[x,y,z,u]=[a,b,d,f]:=e
    cases e'
    unfold rowLo at r3;unfold rowHi at r4
    repeat' split at r3
    all_goals repeat' split at r4
    all_goals omega
  ·intro h
   have r:rowN x=4:=by unfold rowN;repeat' split <;> omega
   rw [mtch_yes (x :: y :: z :: u :: l) 4 (fun j h1 h2=>?_) (.inl (by rw [c,r];decide)),c,r]
   have hj:j=1∨j=2∨j=3:=by omega
   rcases hj with rfl | rfl | rfl
   ·refine ok_j _ _ y rfl ?_
    unfold loJ hiJ rowLo rowHi
    rw [c,if_pos rfl,if_pos rfl]
    repeat' split
    all_goals omega
   ·refine ok_j _ _ z rfl ?_
    unfold loJ hiJ
    rw [if_neg (by decide),if_neg (by decide)]
    omega
   ·refine ok_j _ _ u rfl ?_
    unfold loJ hiJ
    rw [if_neg (by decide),if_neg (by decide)]
    omega
 rw [e,hitB_iff _ _ ((((x - 240) * 64 + y - 128) * 64 + z - 128) * 64 + u - 128) rfl]
 constructor
 ·rintro ⟨_,hs,h,hp⟩
  have:=put8_four _ h
  rw [put8_4 _ this] at hp
  rw [sc_iff] at hs
  simp at hp
  omega
 ·intro h
  rw [put8_4 _ (by omega),sc_iff]
  refine ⟨by simp,by omega,rfl,?_⟩
  simp
  omega
theorem hit_iff (b:List Int) (hb:∀ z ∈ b,0≤z∧z≤255) (k:Nat) (h1:1≤k) (h4:k≤4):hitB b k=true ↔ (mtch b=k∧k≤b.length):=by
 by_cases hl:k≤b.length
 ·have e:k=1∨k=2∨k=3∨k=4:=by omega
  simp only [hl,and_true]
  rcases e with rfl | rfl | rfl | rfl
  ·match b,hb,hl with
   | x :: l,hb,_=>exact hit1 x l (hb x (by simp))
  ·match b,hb,hl with
   | [_],_,hl=>simp at hl
   | x :: y :: l,hb,_=>exact hit2 x y l hb
  ·match b,hb,hl with
   | [_],_,hl=>simp at hl
   | [_,_],_,hl=>simp at hl
   | x :: y :: z :: l,hb,_=>exact hit3 x y z l hb
  ·match b,hb,hl with
   | [_],_,hl=>simp at hl
   | [_,_],_,hl=>simp at hl
   | [_,_,_],_,hl=>simp at hl
   | x :: y :: z :: u :: l,hb,_=>exact hit4 x y z u l hb
 ·constructor
  ·intro h;unfold hitB at h;rw [decide_eq_false hl] at h;simp at h
  ·rintro ⟨_,h⟩;exact absurd h hl
theorem mean_val (b:List Int) (hb:∀ z ∈ b,0≤z∧z≤255) (h0:0 < mtch b) (hl:mtch b≤b.length):mean (b.take (mtch b).toNat)=val (b.take (mtch b).toNat):=by
 rcases row_bytes b hb h0 hl with ⟨x,e,_⟩ | ⟨x,y,e,_⟩ | ⟨x,y,z,e,_⟩ | ⟨x,y,z,u,e,_⟩
 all_goals
  rw [e]
  simp only [mean,val]
  try omega
theorem first8_hit (b:List Int) (hb:∀ z ∈ b,0≤z∧z≤255) (k:Nat) (h1:1≤k) (h4:k≤4) (h:hitB b k=true):first8 b=(mean (b.take k),(k:Int)):=by
 obtain ⟨hm,hl⟩:=(hit_iff b hb k h1 h4).1 h
 have h0:0 < mtch b:=by omega
 have hl':mtch b≤b.length:=by omega
 have e:=mean_val b hb h0 hl'
 unfold first8
 rw [if_pos ⟨h0,hl'⟩,← e,hm]
 rfl
theorem first8_none (b:List Int) (hb:∀ z ∈ b,0≤z∧z≤255) (h:∀ k:Nat,1≤k→k≤4→k≤b.length→hitB b k=false):first8 b=(-1 - c0 b,1):=by
 have hbd:=mtch_bd b
 unfold first8
 rw [if_neg]
 rintro ⟨h0,hl⟩
 have:=h (mtch b).toNat (by omega) (by omega) (by omega)
 have h':=(hit_iff b hb (mtch b).toNat (by omega) (by omega)).2 ⟨by omega,by omega⟩
 rw [this] at h'
 cases h'
end Go.Proofs.YtjjfakokakamaaaGreat.Cx
