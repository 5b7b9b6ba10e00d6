import Derived.Test.YtgfdfajblidleaaGreatK18
import Derived.RegionIn
import Derived.ControlIn
set_option maxRecDepth 100000
namespace Go.Proofs.YtgfdfajblidleaaGreat.P
open Go.RowKit
def nb (b:Int) (cr:Bool) (a:Int):Int:=b + (if a=10∨a=13 then 1 else 0) - (if cr=true∧a=10 then 1 else 0)
theorem nb_ge (b:Int) (cr:Bool) (a:Int):b≤nb b cr a∧nb b cr a≤b + 1:=by
 unfold nb
 by_cases h:a=10
 ·subst h;by_cases hc:cr=true <;> simp [hc] <;> omega
 ·simp only [h,false_or,and_false,if_false]
  split <;> omega
theorem spn_nb (enc:Int) (l:List Int) (a:Int):(spn enc (l ++ [a])).b=nb (spn enc l).b (spn enc l).cr a∧(spn enc (l ++ [a])).cr=decide (a=13):=by
 rw [spn_snoc]
 have ok:=spn_ok enc l
 unfold Rs.add
 by_cases h0:(spn enc l).a=0
 ·rw [if_pos h0]
  have hz:=ok.z h0
  rw [hz]
  unfold sg nb Rs.zero
  simp
 ·rw [if_neg h0,if_neg (by unfold sg;simp)]
  unfold sg nb Rs.mlt
  simp only [decide_eq_true_eq]
  constructor <;> first | trivial | rfl
def skL (k:Int):Int→Bool→List Int→Nat
 | _,_,[]=>0
 | b,cr,a :: l=>if b=k then (if cr=true∧a=10 then 1 else 0) else 1 + skL k (nb b cr a) (decide (a=13)) l
theorem skL_skip (enc:Int) (k:Int) (l2:List Int):∀ (n:Nat) (l1:List Int),l1.length=n→(spn enc l1).b < k→skL k 0 false (l1 ++ l2)=l1.length + skL k (spn enc l1).b (spn enc l1).cr l2:=by
 intro n
 induction n generalizing l2 with
 | zero =>
   intro l1 hl _
   obtain rfl:=List.length_eq_zero_iff.1 hl
   rw [spn_nil]
   simp [Rs.zero]
 | succ n ih =>
   intro l1 hl hb
   obtain ⟨l,a,rfl⟩:∃ l a,l1=l ++ [a]:=⟨l1.dropLast,l1.getLast (by intro e;subst e;simp at hl),(List.dropLast_concat_getLast _).symm⟩
   have hll:l.length=n:=by simpa using hl
   obtain ⟨e1,e2⟩:=spn_nb enc l a
   have hg:=nb_ge (spn enc l).b (spn enc l).cr a
   rw [e1] at hb
   rw [List.append_assoc,List.singleton_append,ih (a :: l2) l hll (by omega),skL,if_neg (by omega),e1,e2]
   simp
   omega
open Go.RowKit
def skA (enc:Int) (A:List Int) (k:Int):Int:=if k=0 then 0 else if k < 0∨(spn enc A).b < k then -1 else (skL k 0 false A:Nat)
def bAt (enc:Int) (A:List Int) (p:Nat):Int:=(spn enc (A.take p)).b - (if (spn enc (A.take p)).cr=true∧A[p]?=some 10 then 1 else 0)
def isE (A:List Int) (p:Nat):Bool:=decide (A[p]?=some 10∨(A[p]?=some 13∧A[p + 1]?≠some 10))
theorem bAt_zero (enc:Int) (A:List Int):bAt enc A 0=0:=by
 unfold bAt
 rw [List.take_zero,spn_nil]
 simp [Rs.zero]
theorem bAt_succ (enc:Int) (A:List Int) (p:Nat) (h:p < A.length):bAt enc A (p + 1)=bAt enc A p + (if isE A p=true then 1 else 0):=by
 obtain ⟨a,ha⟩:∃ a,A[p]?=some a:=⟨_,List.getElem?_eq_getElem h⟩
 have et:A.take (p + 1)=A.take p ++ [a]:=by rw [List.take_add_one,ha];rfl
 obtain ⟨e1,e2⟩:=spn_nb enc (A.take p) a
 unfold bAt isE
 rw [et,e1,e2,ha]
 unfold nb
 simp only [Option.some.injEq,decide_eq_true_eq]
 generalize (spn enc (A.take p)).b=b
 generalize (spn enc (A.take p)).cr=c
 by_cases h10:a=10
 ·subst h10
  cases c <;> simp
 ·by_cases h13:a=13
  ·subst h13
   by_cases hn:A[p + 1]?=some 10 <;> simp [hn]
  ·simp [h10,h13]
theorem bAt_len (enc:Int) (A:List Int) (p:Nat) (h:A.length≤p):bAt enc A p=(spn enc A).b:=by
 unfold bAt
 rw [List.take_of_length_le h,List.getElem?_eq_none h]
 simp
theorem bAt_mono (enc:Int) (A:List Int) (p q:Nat) (h:p≤q):bAt enc A p≤bAt enc A q:=by
 induction q with
 | zero=>obtain rfl:p=0:=by omega
         exact Int.le_refl _
 | succ q ih =>
   rcases Nat.lt_or_ge q p with h1 | h1
   ·obtain rfl:p=q + 1:=by omega
    exact Int.le_refl _
   ·have:=ih h1
    rcases Nat.lt_or_ge q A.length with h2 | h2
    ·rw [bAt_succ enc A q h2]
     split <;> omega
    ·rw [bAt_len enc A (q + 1) (by omega),← bAt_len enc A q h2]
     exact this
theorem bAt_nn (enc:Int) (A:List Int) (p:Nat):0≤bAt enc A p:=by
 have:=bAt_mono enc A 0 p (Nat.zero_le _)
 rw [bAt_zero] at this
 exact this
theorem brk_at (enc:Int) (A:List Int) (z:Int):brk enc A z=bAt enc A z.toNat:=by
 unfold brk
 by_cases h0:z≤0
 ·rw [if_pos h0,show z.toNat=0 by omega,bAt_zero]
 ·rw [if_neg h0]
  by_cases h1:(A.length:Int)≤z
  ·rw [if_pos h1,bAt_len enc A _ (by omega)]
  ·rw [if_neg h1]
   unfold bAt
   have hl:z.toNat < A.length:=by omega
   obtain ⟨a,ha⟩:∃ a,A[z.toNat]?=some a:=⟨_,List.getElem?_eq_getElem hl⟩
   rw [drop_of ha,spn_lf,ha]
   simp only [Option.some.injEq,decide_eq_true_eq]
theorem skL_at (enc:Int) (A:List Int) (k:Int):∀ (rest pre:List Int),A=pre ++ rest→(spn enc pre).b≤k→(∀ l a,pre=l ++ [a]→(spn enc l).b < k)→0 < k→k≤(spn enc A).b →
  1≤pre.length + skL k (spn enc pre).b (spn enc pre).cr rest∧pre.length + skL k (spn enc pre).b (spn enc pre).cr rest≤A.length∧bAt enc A (pre.length + skL k (spn enc pre).b (spn enc pre).cr rest)=k∧bAt enc A (pre.length + skL k (spn enc pre).b (spn enc pre).cr rest - 1) < k:=by
 intro rest
 induction rest with
 | nil =>
   intro pre hA hb hl h0 hk
   rw [List.append_nil] at hA
   subst hA
   have hne:A≠[]:=fun e=>by subst e;rw [spn_nil] at hk;simp [Rs.zero] at hk;omega
   have hpos:=List.length_pos_iff.2 hne
   have e:skL k (spn enc A).b (spn enc A).cr []=0:=rfl
   rw [e,Nat.add_zero]
   refine ⟨hpos,Nat.le_refl _,?_,?_⟩
   ·rw [bAt_len enc A _ (Nat.le_refl _)];omega
   ·have h1:=hl A.dropLast (A.getLast hne) (List.dropLast_concat_getLast hne).symm
    unfold bAt
    rw [← List.dropLast_eq_take]
    split <;> omega
 | cons a rest ih =>
   intro pre hA hb hl h0 hk
   have hga:A[pre.length]?=some a:=by rw [hA,List.getElem?_append_right (Nat.le_refl _)];simp
   have htk:A.take pre.length=pre:=by rw [hA,List.take_left]
   have hal:pre.length < A.length:=by rw [hA];simp
   rw [skL]
   by_cases hbk:(spn enc pre).b=k
   ·rw [if_pos hbk]
    have hne:pre≠[]:=fun e=>by subst e;rw [spn_nil] at hbk;simp [Rs.zero] at hbk;omega
    have hpos:=List.length_pos_iff.2 hne
    have hlast:=hl pre.dropLast (pre.getLast hne) (List.dropLast_concat_getLast hne).symm
    have hm1:bAt enc A (pre.length - 1) < k:=by
     unfold bAt
     rw [hA,List.take_append_of_le_length (by omega),← List.dropLast_eq_take]
     split <;> omega
    by_cases hc:(spn enc pre).cr=true∧a=10
    ·rw [if_pos hc]
     have hB:bAt enc A pre.length=k - 1:=by
      unfold bAt
      rw [htk,hga,if_pos ⟨hc.1,by rw [hc.2]⟩]
      omega
     refine ⟨by omega,by omega,?_,?_⟩
     ·rw [bAt_succ enc A _ hal,hB]
      unfold isE
      rw [hga]
      simp [hc.2]
     ·rw [Nat.add_sub_cancel,hB];omega
    ·rw [if_neg hc,Nat.add_zero]
     refine ⟨hpos,by omega,?_,hm1⟩
     unfold bAt
     rw [htk,hga,if_neg (fun e=>hc ⟨e.1,Option.some.inj e.2⟩)]
     omega
   ·rw [if_neg hbk]
    obtain ⟨e1,e2⟩:=spn_nb enc pre a
    have hg:=nb_ge (spn enc pre).b (spn enc pre).cr a
    have:=ih (pre ++ [a]) (by rw [hA];simp) (by rw [e1];omega) (fun l x e=>by
     obtain ⟨rfl,_⟩:=List.append_inj' e rfl
     omega) h0 hk
    rw [e1,e2,List.length_append,List.length_singleton] at this
    rw [← Nat.add_assoc]
    exact this
theorem skA_at (enc:Int) (A:List Int) (k:Int) (h0:0 < k) (hk:k≤(spn enc A).b):∃ p:Nat,skA enc A k=p∧1≤p∧p≤A.length∧bAt enc A p=k∧bAt enc A (p - 1) < k:=by
 have:=skL_at enc A k A [] rfl (by rw [spn_nil];simp [Rs.zero];omega) (fun l a e=>by simp at e) h0 hk
 rw [spn_nil,List.length_nil,Nat.zero_add] at this
 refine ⟨skL k 0 false A,?_,this.1,this.2.1,this.2.2.1,this.2.2.2⟩
 unfold skA
 rw [if_neg (by omega),if_neg (by omega)]
theorem skA_uniq (enc:Int) (A:List Int) (k:Int) (h0:0 < k) (hk:k≤(spn enc A).b) (p:Nat) (h1:1≤p) (h2:bAt enc A p=k) (h3:bAt enc A (p - 1) < k):skA enc A k=p:=by
 obtain ⟨q,e,q1,_,q2,q3⟩:=skA_at enc A k h0 hk
 rw [e]
 rcases Nat.lt_trichotomy p q with h | h | h
 ·have:=bAt_mono enc A p (q - 1) (by omega);omega
 ·rw [h]
 ·have:=bAt_mono enc A q (p - 1) (by omega);omega
end Go.Proofs.YtgfdfajblidleaaGreat.P
namespace Go.Proofs.YtgfdfajblidleaaGreat.P
open Go.RowKit Go.Shelf
attribute [local go_sem] Oper.semAt_some
structure IB (enc:Int) (ps:List PG) (cl:List Value) (n:Nat) (w w1 w2:World) (pre:List It) (W:World):Prop where
 pr:pre=xsOf (ps.take pre.length)
 row:W.heap[w1.heap.size]?=some (.cells ((Cx.encB enc (asOf (ps.take pre.length))).map (Value.int .u8) ++ cl.drop (ln enc (asOf (ps.take pre.length)))).toArray 5 (0,0))
 out:W.heap[w2.heap.size]?=some (.cells #[.slice (some ⟨w1.heap.size,0,none⟩) n n] 22 (0,0))
 at':W.heap[w2.heap.size + 1]?=some (.cells #[.int .i64 (ln enc (asOf (ps.take pre.length)):Nat)] 3 (0,0))
 old:∀ k,Typ 5 w k→W.heap[k]?=w.heap[k]?
end Go.Proofs.YtgfdfajblidleaaGreat.P
