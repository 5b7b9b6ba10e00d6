import Derived.Test.YtjomfbegghgbdaaGreatJ00
import Derived.Test.YtjomfbegghgbdaaGreatJ38
import Derived.Test.YtjomfbegghgbdaaGreatJ37
import Derived.Test.YtjomfbegghgbdaaGreatJ39
import Derived.Test.YtjomfbegghgbdaaGreatJ36
namespace Go.Proofs.YtjomfbegghgbdaaGreat.P
open Go.RowKit
def lL:Bool→List Int→List Int→List (List Int × Bool)
 | _,acc,[]=>if acc=[] then [] else [(acc,false)]
 | c,acc,x :: r=>if x=10 then (if c=true then lL false [] r else (acc,true) :: lL false [] r) else if x=13 then (acc,true) :: lL true [] r else lL false (acc ++ [x]) r
theorem lL_plain (s rest:List Int):∀ acc,(∀ x ∈ s,x≠10∧x≠13)→s≠[]→∀ c,lL c acc (s ++ rest)=lL false (acc ++ s) rest:=by
 induction s with
 | nil=>intro acc _ h;exact absurd rfl h
 | cons x r ih =>
   intro acc h _ c
   obtain ⟨h1,h2⟩:=h x List.mem_cons_self
   rw [List.cons_append,lL,if_neg h1,if_neg h2]
   by_cases hr:r=[]
   ·subst hr;simp
   ·rw [ih (acc ++ [x]) (fun y hy=>h y (List.mem_cons_of_mem _ hy)) hr false]
    simp
theorem lL_plain' (s rest:List Int) (h:∀ x ∈ s,x≠10∧x≠13):lL false [] (s ++ rest)=lL false s rest:=by
 by_cases hs:s=[]
 ·subst hs;rfl
 ·rw [lL_plain s rest [] h hs];rfl
theorem lL_true (r:List Int) (h:r[0]?≠some 10):lL true [] r=lL false [] r:=by
 cases r with
 | nil=>rfl
 | cons x r =>
   have hx:x≠10:=fun e=>h (by rw [e];rfl)
   rw [lL,lL,if_neg hx,if_neg hx]
theorem lL_line (s rest:List Int) (b:Int) (h:∀ x ∈ s,x≠10∧x≠13) (hb:b=1∨b=2∨b=3) (hr:b=3→rest[0]?≠some 10):lL false [] (s ++ spk b ++ rest)=(s,true) :: lL false [] rest:=by
 rw [List.append_assoc,lL_plain' s _ h]
 rcases hb with rfl | rfl | rfl
 ·show lL false s (10 :: rest)=_
  rw [lL,if_pos rfl,if_neg (by decide)]
 ·show lL false s (13 :: 10 :: rest)=_
  rw [lL,if_neg (by decide),if_pos rfl,lL,if_pos rfl,if_pos rfl]
 ·show lL false s (13 :: rest)=_
  rw [lL,if_neg (by decide),if_pos rfl,lL_true rest (hr rfl)]
theorem lL_last (s:List Int) (h:∀ x ∈ s,x≠10∧x≠13) (hs:s≠[]):lL false [] s=[(s,false)]:=by
 have:=lL_plain' s [] h
 rw [List.append_nil] at this
 rw [this,lL,if_neg hs]
theorem lL_app (Q:List Int):∀ (P:List Int) (c:Bool) (acc:List Int),(P=[]→acc=[])→(∀ l x,P=l ++ [x]→x=10∨x=13)→lL c acc (P ++ Q)=lL c acc P ++ lL (gc c P) [] Q:=by
 intro P
 induction P with
 | nil=>intro c acc h _;rw [h rfl];simp [lL,gc]
 | cons x r ih =>
   intro c acc _ h
   have hr:∀ l y,r=l ++ [y]→y=10∨y=13:=fun l y e=>h (x :: l) y (by rw [e];rfl)
   have hx:r=[]→x=10∨x=13:=fun e=>h [] x (by rw [e];rfl)
   rw [List.cons_append,lL,lL,gc]
   by_cases h10:x=10
   ·rw [if_pos h10,if_pos h10,show decide (x=13)=false by rw [h10];decide]
    by_cases hc:c=true
    ·rw [if_pos hc,if_pos hc];exact ih _ _ (fun _=>rfl) hr
    ·rw [if_neg hc,if_neg hc,ih _ _ (fun _=>rfl) hr];rfl
   ·rw [if_neg h10,if_neg h10]
    by_cases h13:x=13
    ·rw [if_pos h13,if_pos h13,show decide (x=13)=true by rw [h13];decide,ih _ _ (fun _=>rfl) hr];rfl
    ·rw [if_neg h13,if_neg h13,show decide (x=13)=false by simpa using h13]
     exact ih _ _ (fun e=>by have:=hx e;omega) hr
section
variable {enc:Int} {A:List Int}
def lnC (enc:Int) (A:List Int) (i:Nat):List Int × Bool:=((A.drop (lnK enc A (i:Nat)).f.toNat).take ((lnK enc A (i:Nat)).t.toNat - (lnK enc A (i:Nat)).f.toNat),decide ((lnK enc A (i:Nat)).b≠0))
theorem lnC_tile {i f t n:Nat} {b:Int} (h:Tile enc A i f t n b) (hc:(i:Int) < cnt enc A):lnC enc A i=((A.drop f).take (t - f),decide (b≠0)):=by
 have hct:=cnt_tail enc A
 have hb:(i:Int)≤(spn enc A).b:=by rw [hct] at hc;split at hc <;> omega
 have e:=(lnA_inT (enc:=enc) (A:=A) hb).1
 rw [h.at_] at e
 unfold lnC
 rw [← e]
 simp
theorem drop_split {f t n:Nat} (h1:f≤t) (h2:t≤n) (A:List Int):A.drop f=(A.drop f).take (t - f) ++ (A.drop t).take (n - t) ++ A.drop n:=by
 have e1:A.drop t=(A.drop t).take (n - t) ++ A.drop n:=by
  conv=>lhs;rw [← List.take_append_drop (n - t) (A.drop t)]
  rw [List.drop_drop,show t + (n - t)=n by omega]
 conv=>lhs;rw [← List.take_append_drop (t - f) (A.drop f)]
 rw [List.drop_drop,show f + (t - f)=t by omega,List.append_assoc,← e1]
theorem tile_no {i f t n:Nat} {b:Int} (h:Tile enc A i f t n b):∀ x ∈ (A.drop f).take (t - f),x≠10∧x≠13:=by
 intro x hx
 obtain ⟨j,hj⟩:=List.getElem?_of_mem hx
 rw [List.getElem?_take] at hj
 split at hj
 ·rw [List.getElem?_drop] at hj
  obtain ⟨q1,q2⟩:=h.no (f + j) (by omega) (by omega)
  rw [hj] at q1 q2
  exact ⟨fun e=>q1 (by rw [e]),fun e=>q2 (by rw [e])⟩
 ·cases hj
theorem lL_step {i:Nat} (hc:(i:Int) < cnt enc A) (hA:A≠[]):lL false [] (A.drop (atK enc A i))=lnC enc A i :: lL false [] (A.drop (atK enc A (i + 1))):=by
 obtain ⟨f,t,n,b,h⟩:=tile_any hc
 have e:=drop_split h.ft h.tn A
 have hno:=tile_no h
 have hsl:((A.drop f).take (t - f)).length=t - f:=by rw [List.length_take,List.length_drop];have:=h.ft;have:=h.tn;have:=h.nl;omega
 rw [lnC_tile h hc,← h.f0,← h.n0]
 rw [h.sp] at e
 generalize (A.drop f).take (t - f)=s at *
 rw [e]
 by_cases hb:b=0
 ·subst hb
  obtain ⟨h1,h2⟩:=h.la rfl
  have hn:A.drop n=[]:=by
   have e:=atK_end (enc:=enc) (A:=A) (i:=i + 1) (by omega)
   rw [h.n0,e,List.drop_length]
  have hne:s≠[]:=fun e=>by
   rw [e] at hsl
   have h3:=h.ft
   simp only [List.length_nil] at hsl
   exact hA (List.length_eq_zero_iff.1 (h2 (by omega)))
  rw [hn]
  have e0:spk 0=[]:=rfl
  rw [e0,List.append_nil,List.append_nil,lL_last _ hno hne]
  simp [lL]
 ·have hb2:b=1∨b=2∨b=3:=by have:=h.b0;have:=h.b3;omega
  rw [lL_line _ _ b hno hb2 (fun e=>by rw [List.getElem?_drop,Nat.add_zero];exact h.cr e),show decide (b≠0)=true by simpa using hb]
theorem lL_from (hA:A≠[]):∀ (d i:Nat),(i:Int) + d=cnt enc A→lL false [] (A.drop (atK enc A i))=(List.range d).map (fun j=>lnC enc A (i + j)):=by
 intro d
 induction d with
 | zero =>
   intro i h
   rw [atK_end (by omega),List.drop_length]
   rfl
 | succ d ih =>
   intro i h
   rw [lL_step (by omega) hA,ih (i + 1) (by omega),List.range_succ_eq_map,List.map_cons,List.map_map]
   congr 1
   apply List.map_congr_left
   intro j _
   show lnC enc A (i + 1 + j)=lnC enc A (i + (j + 1))
   rw [show i + 1 + j=i + (j + 1) by omega]
def lnsC (enc:Int) (A:List Int):List (List Int × Bool):=(List.range (cnt enc A).toNat).map (lnC enc A)
theorem cnt_nn (enc:Int) (A:List Int):1≤cnt enc A:=by have:=cnt_pos enc A;omega
theorem lnsC_all (hA:A≠[]):lnsC enc A=lL false [] A:=by
 have h:=lL_from (enc:=enc) hA (cnt enc A).toNat 0 (by have:=cnt_nn enc A;omega)
 rw [atK_zero,List.drop_zero] at h
 rw [h]
 unfold lnsC
 apply List.map_congr_left
 intro j _
 rw [Nat.zero_add]
theorem lnsC_nil:lnsC enc []=[([],false)]:=by
 have hc:cnt enc []=1:=by
  have h1:=spn_len enc []
  have h2:=spn_nn enc []
  unfold cnt
  simp only [List.length_nil,true_or,if_true] at h1 ⊢
  omega
 have hb:(spn enc []).b=0:=by have h1:=spn_len enc [];have h2:=spn_nn enc [];simp only [List.length_nil] at h1;omega
 unfold lnsC
 rw [hc]
 show [lnC enc [] 0]=_
 unfold lnC lnK
 rw [if_pos (by rw [hb];rfl)]
 simp
theorem lnsC_len:(lnsC enc A).length=(cnt enc A).toNat:=by simp [lnsC]
theorem lnsC_at {i:Nat} (h:(i:Int) < cnt enc A):(lnsC enc A)[i]?=some (lnC enc A i):=by
 unfold lnsC
 rw [List.getElem?_map,List.getElem?_range (by omega)]
 rfl
theorem take_end {i:Nat} (hc:(i:Int) < cnt enc A) {l:List Int} {x:Int} (e:A.take (atK enc A i)=l ++ [x]):(x=10∨x=13)∧(x=13→A[atK enc A i]?≠some 10)∧0 < atK enc A i∧A[atK enc A i - 1]?=some x:=by
 have hct:=cnt_tail enc A
 have hlen:(A.take (atK enc A i)).length=atK enc A i:=by
  rw [List.length_take]
  have:=(atK_in (enc:=enc) (A:=A) (i:=i) (by rw [hct] at hc;split at hc <;> omega)).2
  omega
 rcases Nat.eq_zero_or_pos i with rfl | hp
 ·rw [atK_zero,List.take_zero] at e
  have:=congrArg List.length e
  simp at this
 ·obtain ⟨j,rfl⟩:∃ j,i=j + 1:=⟨i - 1,by omega⟩
  obtain ⟨g1,g2,g3,_⟩:=line_end (enc:=enc) (A:=A) (i:=j) (by rw [hct] at hc;split at hc <;> omega)
  have hl:=congrArg List.length e
  rw [hlen] at hl
  simp at hl
  have hx:A[atK enc A (j + 1) - 1]?=some x:=by
   have e2:=congrArg (fun q=>q[l.length]?) e
   simp only [List.getElem?_take,List.getElem?_append_right (Nat.le_refl _),Nat.sub_self,List.getElem?_cons_zero] at e2
   rw [if_pos (by omega)] at e2
   rw [show atK enc A (j + 1) - 1=l.length by omega]
   exact e2
  refine ⟨?_,?_,by omega,hx⟩
  ·rcases isE_iff.1 g3 with q | ⟨q1,q2⟩
   ·rw [hx] at q;exact .inl (by simpa using q)
   ·rw [hx] at q1;exact .inr (by simpa using q1)
  ·intro e13
   rcases isE_iff.1 g3 with q | ⟨q1,q2⟩
   ·rw [hx] at q
    have:x=10:=by simpa using q
    omega
   ·rw [show atK enc A (j + 1) - 1 + 1=atK enc A (j + 1) by omega] at q2
    exact q2
theorem lL_take {i:Nat} (hA:A≠[]) (hc:(i:Int)≤cnt enc A):lL false [] (A.take (atK enc A i))=(lnsC enc A).take i:=by
 by_cases hi:(i:Int)=cnt enc A
 ·rw [atK_end hi,List.take_length,lnsC_all hA,List.take_of_length_le]
  rw [← lnsC_all (enc:=enc) hA,lnsC_len]
  omega
 have h0:=lnsC_all (enc:=enc) hA
 have h1:=lL_from (enc:=enc) hA (cnt enc A).toNat 0 (by have:=cnt_nn enc A;omega)
 have h2:=lL_from (enc:=enc) hA ((cnt enc A).toNat - i) i (by omega)
 have hP:∀ l x,A.take (atK enc A i)=l ++ [x]→(x=10∨x=13)∧(x=13→A[atK enc A i]?≠some 10):=fun l x e=>⟨(take_end (by omega) e).1,(take_end (by omega) e).2.1⟩
 have h3:=lL_app (A.drop (atK enc A i)) (A.take (atK enc A i)) false [] (fun _=>rfl) (fun l x e=>(hP l x e).1)
 rw [List.take_append_drop] at h3
 have h4:lL (gc false (A.take (atK enc A i))) [] (A.drop (atK enc A i))=lL false [] (A.drop (atK enc A i)):=by
  cases hg:gc false (A.take (atK enc A i)) with
  | false=>rfl
  | true =>
    refine lL_true _ ?_
    rw [List.getElem?_drop,Nat.add_zero]
    rcases List.eq_nil_or_concat (A.take (atK enc A i)) with e | ⟨l,x,e⟩
    ·rw [e] at hg;cases hg
    ·rw [List.concat_eq_append] at e
     rw [e,gc_app,gc_one] at hg
     exact (hP l x e).2 (by simpa using hg)
 rw [h4,h2,← h0] at h3
 have h5:lnsC enc A=(lnsC enc A).take i ++ (List.range ((cnt enc A).toNat - i)).map (fun j=>lnC enc A (i + j)):=by
  apply List.ext_getElem?
  intro k
  rcases Nat.lt_or_ge k i with hk | hk
  ·rw [List.getElem?_append_left (by rw [List.length_take,lnsC_len];omega),List.getElem?_take,if_pos hk]
  ·have hl:((lnsC enc A).take i).length=i:=by rw [List.length_take,lnsC_len];omega
   rw [List.getElem?_append_right (by omega),hl,List.getElem?_map]
   rcases Nat.lt_or_ge k (cnt enc A).toNat with hk2 | hk2
   ·rw [lnsC_at (by omega),List.getElem?_range (by omega)]
    simp only [Option.map_some]
    rw [show i + (k - i)=k by omega]
   ·rw [List.getElem?_eq_none (by rw [lnsC_len];omega),List.getElem?_eq_none (by rw [List.length_range];omega)]
    rfl
 rw [h5] at h3
 have h6:=List.append_cancel_right h3
 rw [← h6]
theorem lL_drop {i:Nat} (hA:A≠[]) (hc:(i:Int)≤cnt enc A):lL false [] (A.drop (atK enc A i))=(lnsC enc A).drop i:=by
 rw [lL_from (enc:=enc) hA ((cnt enc A).toNat - i) i (by omega)]
 apply List.ext_getElem?
 intro k
 rw [List.getElem?_drop,List.getElem?_map]
 rcases Nat.lt_or_ge (i + k) (cnt enc A).toNat with hk | hk
 ·rw [lnsC_at (by omega),List.getElem?_range (by omega)]
  rfl
 ·rw [List.getElem?_eq_none (by rw [List.length_range];omega),List.getElem?_eq_none (by rw [lnsC_len];omega)]
  rfl
def fo (l:List (List Int × Bool)):Nat:=l.countP fun p=>!p.2
theorem fo_app (a b:List (List Int × Bool)):fo (a ++ b)=fo a + fo b:=List.countP_append
theorem fo_none (l:List (List Int × Bool)) (h:∀ p ∈ l,p.2=true):fo l=0:=by
 unfold fo
 rw [List.countP_eq_zero]
 intro p hp
 rw [h p hp]
 simp
theorem kC_fo (enc:Int) (A:List Int):kC (al enc A) 0=fo (lnsC enc A):=by
 unfold kC al alF fo lnsC
 rw [List.countP_map,List.countP_map]
 congr 1
 funext i
 simp only [Function.comp,lnC]
 by_cases h:(lnK enc A (i:Nat)).b=0 <;> simp [h]
theorem lnC_mid {i:Nat} (hc:(i:Int) + 1 < cnt enc A):(lnC enc A i).2=true:=by
 obtain ⟨f,t,n,b,h⟩:=tile_any (enc:=enc) (A:=A) (i:=i) (by omega)
 rw [lnC_tile h (by omega)]
 have:b≠0:=fun e=>by have:=(h.la e).1;omega
 simpa using this
theorem fo_take {i:Nat} (hc:(i:Int) < cnt enc A):fo ((lnsC enc A).take i)=0:=by
 refine fo_none _ fun p hp=>?_
 obtain ⟨j,hj⟩:=List.getElem?_of_mem hp
 rw [List.getElem?_take] at hj
 split at hj
 ·rw [lnsC_at (by omega)] at hj
  cases hj
  exact lnC_mid (by omega)
 ·cases hj
theorem lnsC_last:∃ k:Nat,(k:Int) + 1=cnt enc A∧lnsC enc A=(lnsC enc A).take k ++ [lnC enc A k]:=by
 have h1:=cnt_nn enc A
 refine ⟨(cnt enc A).toNat - 1,by omega,?_⟩
 have hk:(((cnt enc A).toNat - 1:Nat):Int) < cnt enc A:=by omega
 conv=>lhs;rw [← List.take_append_drop ((cnt enc A).toNat - 1) (lnsC enc A)]
 congr 1
 rw [drop_of (lnsC_at hk),List.drop_of_length_le (by rw [lnsC_len];omega)]
structure Del (enc:Int) (A B:List Int) (f l:Nat):Prop where
 ct:(lnsC enc B).map Prod.fst=((lnsC enc A).take f ++ (lnsC enc A).drop (l + 1)).map Prod.fst
 fo:fo (lnsC enc B)=if 0 < f∧(lnK enc A ((f:Int) - 1)).f=(lnK enc A ((f:Int) - 1)).t∧(l:Int)=cnt enc A - 1 then 0 else fo (lnsC enc A)
theorem tile_lnK {i f t n:Nat} {b:Int} (h:Tile enc A i f t n b) (hc:(i:Int) < cnt enc A):lnK enc A (i:Nat)=⟨(f:Nat),(t:Nat),(n:Nat),b⟩:=by
 have hct:=cnt_tail enc A
 have hb:(i:Int)≤(spn enc A).b:=by rw [hct] at hc;split at hc <;> omega
 rw [← (lnA_inT (enc:=enc) (A:=A) hb).1,h.at_]
theorem wh_in {f l:Nat} (hfl:f≤l) (hl:(l:Int) < cnt enc A):∃ F T:Nat,whA enc A f l=⟨(F:Nat),(T:Nat),1,0⟩∧F≤T∧T≤A.length∧((l:Int) - f + 1=cnt enc A→F=0∧T=A.length) ∧
  ((∃ n b,Tile enc A (f - 1) (atK enc A (f - 1)) F n b∧0 < f∧atK enc A (f - 1) < F∧(lnK enc A (l:Nat)).b=0∧T=A.length∧(l:Int)=cnt enc A - 1) ∨
   (¬ ((lnK enc A (l:Nat)).b=0∧0 < f∧(lnK enc A ((f:Int) - 1)).f < (lnK enc A ((f:Int) - 1)).t)∧F=atK enc A f∧T=atK enc A (l + 1))):=by
 obtain ⟨f2,t2,n2,b2,h2⟩:=tile_any (enc:=enc) (A:=A) (i:=l) hl
 have e2:=tile_lnK h2 hl
 have hmono:atK enc A f≤f2:=by
  rw [h2.f0]
  have:∀ d,((f + d:Nat):Int)≤l→atK enc A f≤atK enc A (f + d):=by
   intro d
   induction d with
   | zero=>intro _;exact Nat.le_refl _
   | succ d ih =>
     intro hd
     have h3:=ih (by omega)
     obtain ⟨f3,t3,n3,b3,h4⟩:=tile_any (enc:=enc) (A:=A) (i:=f + d) (by omega)
     have h5:=h4.ft
     have h6:=h4.tn
     have h7:=h4.f0
     have h8:=h4.n0
     rw [show f + (d + 1)=f + d + 1 by omega]
     omega
  have:=this (l - f) (by omega)
  rwa [show f + (l - f)=l by omega] at this
 have hft:=h2.ft
 have htn:=h2.tn
 have hnl:=h2.nl
 have hw:∀ q,q=whA enc A f l→q=whA enc A f l:=fun _ e=>e
 unfold whA
 rw [if_neg (by omega),e2]
 by_cases hcond:b2=0∧0 < (f:Int)∧(lnK enc A ((f:Int) - 1)).f < (lnK enc A ((f:Int) - 1)).t
 ·obtain ⟨f1,t1,n1,b1,h1⟩:=tile_any (enc:=enc) (A:=A) (i:=f - 1) (by omega)
  have e1:=tile_lnK h1 (by omega)
  have ef:((f - 1:Nat):Int)=(f:Int) - 1:=by omega
  rw [ef] at e1
  rw [if_pos (by simpa using hcond),e1]
  rw [e1] at hcond
  have hla:=h2.la hcond.1
  have hn2:n2=A.length:=by rw [h2.n0];exact atK_end (by omega)
  have q1:=h1.tn
  have q2:=h1.n0
  rw [show f - 1 + 1=f by omega] at q2
  have q3:=h1.f0
  refine ⟨t1,n2,rfl,by omega,by omega,fun e=>by omega,.inl ⟨n1,b1,by rw [← q3];exact h1,by omega,?_,hcond.1,hn2,by omega⟩⟩
  have:=hcond.2.2
  simp only at this
  omega
 ·obtain ⟨f1,t1,n1,b1,h1⟩:=tile_any (enc:=enc) (A:=A) (i:=f) (by omega)
  have e1:=tile_lnK h1 (by omega)
  rw [if_neg (by simpa using hcond),e1]
  have q1:=h1.f0
  have q2:=h2.n0
  refine ⟨f1,n2,rfl,by omega,by omega,fun e=>?_,.inr ⟨by simpa using hcond,q1,q2⟩⟩
  have hf0:f=0:=by omega
  subst hf0
  exact ⟨by rw [q1,atK_zero],by rw [q2];exact atK_end (by omega)⟩
theorem spl_nil (A:List Int) (F T:Nat):spl A F T []=A.take F ++ A.drop T:=by unfold spl;rw [List.append_nil]
theorem del_any {f l:Nat} (hfl:f≤l) (hl:(l:Int) < cnt enc A) (hne:(l:Int) - f + 1≠cnt enc A) (F T:Nat) (hw:whA enc A f l=⟨(F:Nat),(T:Nat),1,0⟩) (hs:¬ (0 < F∧T < A.length∧A[F - 1]?=some 13∧A[T]?=some 10)):Del enc A (spl A F T []) f l:=by
 have hA:A≠[]:=fun e=>by
  subst e
  have h1:(lnsC enc ([]:List Int)).length=1:=by rw [lnsC_nil];rfl
  rw [lnsC_len] at h1
  omega
 obtain ⟨F',T',e,h1,h2,_,h3⟩:=wh_in (enc:=enc) (A:=A) hfl hl
 rw [hw] at e
 simp only [Wh.mk.injEq] at e
 obtain ⟨eF,eT,_,_⟩:=e
 obtain rfl:F=F':=by omega
 obtain rfl:T=T':=by omega
 rw [spl_nil]
 obtain ⟨k,hk,hlast⟩:=lnsC_last (enc:=enc) (A:=A)
 have hkf:fo ((lnsC enc A).take k)=0:=fo_take (by omega)
 have hall:fo (lnsC enc A)=fo [lnC enc A k]:=by
  conv=>lhs;rw [hlast]
  rw [fo_app,hkf,Nat.zero_add]
 rcases h3 with ⟨n,b,ht,hf0,hlt,hb,hTl,hll⟩ | ⟨hc,rfl,rfl⟩
 ·have hc1:((f - 1:Nat):Int) < cnt enc A:=by omega
  have e1:=lnC_tile ht hc1
  have eB:A.take F ++ A.drop T=A.take (atK enc A (f - 1)) ++ (A.drop (atK enc A (f - 1))).take (F - atK enc A (f - 1)):=by
   rw [hTl,List.drop_length,List.append_nil]
   conv=>lhs;rw [show F=atK enc A (f - 1) + (F - atK enc A (f - 1)) by omega,List.take_add]
  have hcn:(A.drop (atK enc A (f - 1))).take (F - atK enc A (f - 1))≠[]:=fun e=>by
   have:=congrArg List.length e
   rw [List.length_take,List.length_drop] at this
   simp only [List.length_nil] at this
   omega
  have hno:=tile_no ht
  have hB:A.take F ++ A.drop T≠[]:=by rw [eB];exact fun e=>hcn (List.append_eq_nil_iff.1 e).2
  have hL:lnsC enc (A.take F ++ A.drop T)=(lnsC enc A).take (f - 1) ++ [((A.drop (atK enc A (f - 1))).take (F - atK enc A (f - 1)),false)]:=by
   rw [lnsC_all hB,eB,lL_app _ _ false [] (fun _=>rfl) (fun l x e=>(take_end hc1 e).1),lL_take hA (by omega)]
   congr 1
   generalize (A.drop (atK enc A (f - 1))).take (F - atK enc A (f - 1))=s at *
   have:s[0]?≠some 10:=by
    cases s with
    | nil=>exact absurd rfl hcn
    | cons x r=>exact fun e=>(hno x List.mem_cons_self).1 (by simpa using e)
   cases gc false (A.take (atK enc A (f - 1))) with
   | false=>exact lL_last s hno hcn
   | true=>rw [lL_true s this];exact lL_last s hno hcn
  have eX:(lnsC enc A).take f=(lnsC enc A).take (f - 1) ++ [lnC enc A (f - 1)]:=by
   conv=>lhs;rw [show f=f - 1 + 1 by omega,List.take_add_one,lnsC_at hc1]
   rfl
  have hkl:k=l:=by omega
  refine ⟨?_,?_⟩
  ·have ed:(lnsC enc A).drop (l + 1)=[]:=List.drop_of_length_le (by rw [lnsC_len];omega)
   rw [hL,eX,ed,List.append_nil,List.map_append,List.map_append,e1]
   rfl
  ·have e2:=tile_lnK ht hc1
   rw [show ((f - 1:Nat):Int)=(f:Int) - 1 by omega] at e2
   rw [hL,fo_app,fo_take hc1,if_neg (by rw [e2];simp only;omega),hall,hkl]
   unfold fo lnC
   simp [hb]
 ·have hcf:(f:Int) < cnt enc A:=by omega
  have hgc:lL (gc false (A.take (atK enc A f))) [] (A.drop (atK enc A (l + 1)))=lL false [] (A.drop (atK enc A (l + 1))):=by
   cases hg:gc false (A.take (atK enc A f)) with
   | false=>rfl
   | true =>
     refine lL_true _ ?_
     rw [List.getElem?_drop,Nat.add_zero]
     rcases List.eq_nil_or_concat (A.take (atK enc A f)) with e | ⟨r,x,e⟩
     ·rw [e] at hg;cases hg
     ·rw [List.concat_eq_append] at e
      obtain ⟨_,_,g3,g4⟩:=take_end hcf e
      rw [e,gc_app,gc_one] at hg
      have hx:x=13:=by simpa using hg
      intro h10
      exact hs ⟨g3,(List.getElem?_eq_some_iff.1 h10).1,by rw [g4,hx],h10⟩
  have hLL:lL false [] (A.take (atK enc A f) ++ A.drop (atK enc A (l + 1)))=(lnsC enc A).take f ++ (lnsC enc A).drop (l + 1):=by
   rw [lL_app _ _ false [] (fun _=>rfl) (fun l x e=>(take_end hcf e).1),lL_take hA (by omega),hgc,lL_drop hA (by omega)]
  have hB:A.take (atK enc A f) ++ A.drop (atK enc A (l + 1))≠[]:=fun e=>by
   rw [e] at hLL
   have:=congrArg List.length hLL
   rw [List.length_append,List.length_take,List.length_drop,lnsC_len] at this
   simp only [lL,if_true,List.length_nil] at this
   omega
  have hL:=(lnsC_all (enc:=enc) hB).trans hLL
  refine ⟨by rw [hL],?_⟩
  rw [hL,fo_app,fo_take hcf,Nat.zero_add]
  by_cases hlk:l=k
  ·rw [List.drop_of_length_le (by rw [lnsC_len];omega)]
   show 0=_
   split
   ·rfl
   ·rename_i hn
    rw [hall]
    have hbk:(lnK enc A (k:Nat)).b≠0:=fun e=>by
     rw [hlk] at hc
     have hf0:0 < f:=by omega
     obtain ⟨f1,t1,n1,b1,q⟩:=tile_any (enc:=enc) (A:=A) (i:=f - 1) (by omega)
     have e2:=tile_lnK q (by omega)
     rw [show ((f - 1:Nat):Int)=(f:Int) - 1 by omega] at e2
     rw [e2] at hc hn
     have q5:=q.ft
     simp only at hc hn
     by_cases h9:f1 < t1
     ·exact hc ⟨e,hf0,by omega⟩
     ·exact hn ⟨hf0,by omega,by omega⟩
    unfold fo lnC
    simp [hbk]
  ·have hlk2:l + 1≤k:=by omega
   have ed:(lnsC enc A).drop (l + 1)=((lnsC enc A).take k).drop (l + 1) ++ [lnC enc A k]:=by
    conv=>lhs;rw [hlast]
    rw [List.drop_append_of_le_length (by rw [List.length_take,lnsC_len];omega)]
   rw [if_neg (by omega),ed,fo_app,hall]
   have:fo (((lnsC enc A).take k).drop (l + 1))=0:=by
    refine fo_none _ fun p hp=>?_
    have hp2:=List.mem_of_mem_drop hp
    obtain ⟨j,hj⟩:=List.getElem?_of_mem hp2
    rw [List.getElem?_take] at hj
    split at hj
    ·rw [lnsC_at (by omega)] at hj
     cases hj
     exact lnC_mid (by omega)
    ·cases hj
   rw [this,Nat.zero_add]
theorem Del.cnt {B:List Int} {f l:Nat} (h:Del enc A B f l) (hfl:f≤l) (hl:(l:Int) < P.cnt enc A):P.cnt enc B=P.cnt enc A - (l - f + 1):=by
 have e:=congrArg List.length h.ct
 rw [List.length_map,List.length_map,List.length_append,List.length_take,List.length_drop,lnsC_len,lnsC_len] at e
 have:=cnt_nn enc B
 omega
end
end Go.Proofs.YtjomfbegghgbdaaGreat.P
namespace Go.Proofs.YtjomfbegghgbdaaGreat.P
open Go.RowKit
def ctF (enc:Int) (A:List Int) (f l:Int) (i:Nat):List Int:=(List.range i).flatMap fun (j:Nat)=>if f≤(j:Int)∧(j:Int)≤l then [] else (-9999) :: (lnC enc A j).1
theorem ctF_succ (enc:Int) (A:List Int) (f l:Int) (i:Nat):ctF enc A f l (i + 1)=ctF enc A f l i ++ if f≤(i:Int)∧(i:Int)≤l then [] else (-9999) :: (lnC enc A i).1:=by
 unfold ctF
 rw [List.range_succ,List.flatMap_append]
 simp
theorem ctF_len (enc:Int) (A:List Int) (f l:Int):∀ i:Nat,(i:Int)≤cnt enc A→(ctF enc A f l i).length≤atK enc A i + i:=by
 intro i
 induction i with
 | zero=>intro _;simp [ctF]
 | succ i ih =>
   intro h
   obtain ⟨f1,t1,n1,b1,h1⟩:=tile_any (enc:=enc) (A:=A) (i:=i) (by omega)
   have h2:=ih (by omega)
   have h3:=h1.ft
   have h4:=h1.tn
   have h5:=h1.f0
   have h6:=h1.n0
   have h7:=h1.nl
   have h8:=lnC_tile h1 (by omega)
   rw [ctF_succ,List.length_append,h8]
   split
   ·simp only [List.length_nil];omega
   ·simp only [List.length_cons,List.length_take,List.length_drop];omega
section
variable {P:Program} {W:World} {ops:Array Oper} {rest:List Oper} {o:Oper} {a:Act} {Q:Exit→Act→World→Prop}
theorem wpl_intsG (hgd:o.guard=none) (s x:Operand) (t:TypeId) (ho:o.op=.call { callee:=.builtin .append,args:=#[s,x],argTypes:=#[t,t] })
  (base:Nat) (hinf:(P.info? 3).map (fun i=>(i.zero,i.size,i.bytes))=some (some (.int .i64 0),1,8)) (ht:P.underlying t=some (.slice 3))
  (v:Value) (zs:List Int) (hs:a.eval s=v) (hown:OwnI W base v zs) (y:Int) (ad:Addr) (c:Nat) (hx:a.eval x=.slice (some ad) 1 c)
  (hys:∀ j u,([y].map (Value.int .i64))[j]?=some u→W.cell? (ad.add j)=some u) (hl:zs.length < 17592186044416) (hbase:base≤W.heap.size)
  (h:∀ v' w',OwnI w' base v' (zs ++ [y])→W.grownBy w' v.ownBlock→wpList P ops Q rest (a.put o.dst v') w'):wpList P ops Q (o :: rest) a W:=by
 obtain ⟨i0,hi,hz0,hz1,hz2⟩:=info_parts hinf
 refine wpList_append_own W hgd s x t ho base 3 i0 (.int .i64 0) 1 8 ht hi hz0 hz1 hz2 rfl (by decide) v zs.length (zs.map (Value.int .i64)) hs hown ad 1 c ([y].map (Value.int .i64)) hx (by simp) hys (fun u hu=>by rw [List.mem_map] at hu;obtain ⟨_,_,rfl⟩:=hu;rfl) (by unfold maxLen;omega) (by omega) hbase ?_
 intro v' w' h1 h2 _
 refine h v' w' ?_ h2
 unfold OwnI
 rw [List.length_append,List.map_append]
 exact h1
end
theorem box_kept {y w8:World} {v:Value} {zs:List Int} {base lb:Nat} {cs:Array Value} {T:TypeId} {ob:Obj} (hb:y.heap[lb]?=some (.cells cs T (0,0))) (hT:T≠3) (ho:OwnI y base v zs) (hg:(y.alloc ob).grownBy w8 v.ownBlock):w8.heap[lb]?=some (.cells cs T (0,0)):=by
 have hlt:lb < y.heap.size:=(Array.getElem?_eq_some_iff.1 hb).1
 rw [hg.block lb (Nat.lt_of_lt_of_le hlt (size_alloc_le _ _)) (fun e=>hT (Typ.uniq ⟨_,hb⟩ (ho.typ e.symm)))]
 exact ((ext_alloc (Below.refl y.heap.size y) ob).block lb hlt).trans hb
theorem below_kept {w y w8:World} {v:Value} {zs:List Int} {base:Nat} {ob:Obj} (hb:Below base w y) (hs:base≤y.heap.size) (ho:OwnI y base v zs) (hg:(y.alloc ob).grownBy w8 v.ownBlock):Below base w w8 :=
 hb.trans (((Below.refl base y).alloc hs ob).trans ((Below.refl _ _).grown hg (Nat.le_trans hs (size_alloc_le _ _)) (fun k hk=>(World.ownsRow.lt ho k hk).1)))
set_option maxRecDepth 100000 in
set_option maxHeartbeats 16000000 in
theorem contents_any {enc:Int} (w:World) (tx:Nat) (A:List Int) (va:Value) (f l:Int) (m:Nat) (hT:Tz enc w tx A) (hA:Rd .i64 w va A) (hm:cnt enc A=m) :
  Calls Tryz.prog 36 #[.pointer (some ⟨tx,0,none⟩),va,.int .i64 (m:Nat),.int .i64 f,.int .i64 l] w fun e w'=>∃ v,e=.returned v∧Hid (OwnI w' w.heap.size v (ctF enc A f l m))∧Below w.heap.size w w':=by
 have hl:=hT.len
 obtain ⟨aa,ca,rfl,_,_,_⟩:=id hA
 have HT:=hidIt hT
 have HA:=hidIt hA
 have HCM:=hidIt hm
 have HLN:Hid (∀ i:Nat,i≤m→(ctF enc A f l i).length≤131074):=fun i hi=>by
  have h1:=ctF_len enc A f l i (by omega)
  obtain ⟨q1,q2⟩:=cnt_rng enc A
  have h2:atK enc A i≤A.length:=by
   by_cases he:(i:Int)=cnt enc A
   ·rw [atK_end he];exact Nat.le_refl _
   ·obtain ⟨f1,t1,n1,b1,k1⟩:=tile_any (enc:=enc) (A:=A) (i:=i) (by omega)
    have:=k1.f0;have:=k1.ft;have:=k1.tn;have:=k1.nl
    omega
  omega
 have hmb:m≤65537:=by have:=(cnt_rng enc A).2;omega
 have HN0:Hid (OwnI w w.heap.size (.slice none 0 0) []∧Below w.heap.size w w):=⟨World.ownsRow_nil _ _ _ _,Below.refl _ _⟩
 clear hT hA hm
 go_enter Tryz.func36,Tryz.ntmps36
 go_wp2_with fail
 go_loopw [11,12] (fun ov iv wr=>∃ (i:Nat) (ao:Option Addr) (n cap:Nat),i≤m∧iv=.int .i64 (i:Nat)∧ov=.slice ao n cap∧Hid (n=(ctF enc A f l i).length∧OwnI wr w.heap.size (.slice ao n cap) (ctF enc A f l i)∧Below w.heap.size w wr)) (fun _ iv _=>m - (intOf iv).toNat)
 case atStart=>exact ⟨0,none,0,0,Nat.zero_le _,rfl,rfl,rfl,HN0.out⟩
 case round =>
  obtain ⟨i,ao,n,cap,hi,rfl,rfl,HI⟩:=hrel
  obtain ⟨wo,rfl⟩:∃ wo,wo=wr:=⟨_,rfl⟩
  by_cases hlt:i < m
  ·have hltI:(i:Int) < (m:Int):=by omega
   obtain ⟨f1,t1,n1,b1,TL⟩:=tile_any (enc:=enc) (A:=A) (i:=i) (by rw [HCM.out];omega)
   have HTL:=hidIt TL
   have AZ:=hidIt (At_z enc wo tx A i (HT.out.ext HI.out.2.2))
   rw [TL.at_,TL.er] at AZ
   dsimp only at AZ
   have HLC:Hid ((lnC enc A i).1=(A.drop f1).take (t1 - f1)):=by unfold Hid;rw [lnC_tile TL (by rw [HCM.out];omega)]
   have hft:=TL.ft
   have htn:=TL.tn
   have hnl:=TL.nl
   clear TL
   go_upto_region 6 with (go_at_call 27;refine AZ.out.mono ?_;rintro e y ⟨rfl,hb⟩;have HBY:=hidIt hb;clear hb;(try dsimp only))
   clear AZ
   generalize hy2:World.alloc _ _=y2
   have HY2:Hid (Below wo.heap.size wo y2∧y2.heap[y.heap.size]?=some (.cells #[.int .i64 (f1:Nat),.int .i64 (t1:Nat),.int .i64 (n1:Nat),.int .i64 b1] 50 (0,0))):=by unfold Hid;rw [← hy2];exact ⟨ext_alloc HBY.out _,heap_alloc_new _ _⟩
   clear hy2 HBY
   generalize y.heap.size=gl at *
   have HO2:=hidIt (HI.out.2.1.ext HY2.out.1)
   have HB2:Hid (Below w.heap.size w y2):=ext_trans HI.out.2.2 HY2.out.1
   have HBX:=hidIt HY2.out.2
   have HN:=hidIt HI.out.1
   have HM:=hidIt HI.out
   clear HY2
   by_cases hc:f≤(i:Int)∧(i:Int)≤l
   ·obtain ⟨h1,h2⟩:=hc
    have HST:Hid (ctF enc A f l (i + 1)=ctF enc A f l i):=by unfold Hid;rw [ctF_succ,if_pos ⟨h1,h2⟩,List.append_nil]
    clear HI
    go_wp2_with fail
    go_roundw
    case rel=>exact ⟨i + 1,ao,n,cap,hlt,by go_num,rfl,by rw [HST.out];exact HN.out,by rw [HST.out];exact HO2.out,HB2.out⟩
    case measure=>simp [intOf];omega
   ·have HST:Hid (ctF enc A f l (i + 1)=ctF enc A f l i ++ (-9999) :: (A.drop f1).take (t1 - f1)):=by unfold Hid;rw [ctF_succ,if_neg hc,HLC.out]
    have HLL:=hidIt (HLN.out i hi)
    clear HI HM
    generalize ctF enc A f l i=LL at *
    have HZB:Hid (w.heap.size≤y2.heap.size):=HB2.out.size
    have HOA:=hidIt (HO2.out.ext (ext_alloc (Below.refl y2.heap.size y2) (.cells #[.int .i64 (-9999)] 3)))
    have HZ:Hid (w.heap.size≤(y2.alloc (.cells #[.int .i64 (-9999)] 3)).heap.size):=Nat.le_trans HZB.out (size_alloc_le _ _)
    have hn8':Hid (∀ y:Int,(LL ++ [y]).length=LL.length + 1):=fun y=>by simp
    go_upto_region 6 with fail
    go_cut [34] from 27 to 34 (fun bv wF=>bv=.bool false∧wF=y2)
    case first =>
     by_cases h1:f≤(i:Int)
     ·have h2:¬ (i:Int)≤l:=fun h=>hc ⟨h1,h⟩
      clear hc
      go_wp2_with fail
      go_meet
      case rel=>exact ⟨rfl,rfl⟩
     ·clear hc
      go_wp2_with fail
      go_meet
      case rel=>exact ⟨rfl,rfl⟩
    obtain ⟨rfl,hwc⟩:=hcut
    subst hwc
    clear hc
    go_upto_region 8 with (at_builtin;refine wpl_intsG rfl _ _ 27 rfl w.heap.size Tryz.info_i64 Tryz.underlying27 (.slice ao n cap) LL rfl HOA.out (-9999) ⟨wc.heap.size,0,none⟩ 1 rfl (rdi_new wc _) (by have:=HLL.out;omega) HZ.out ?_;intro v8 w8 ho8 hg8;obtain ⟨a8,c8,hv8⟩:=ho8.form;generalize hn8:(LL ++ [-9999]).length=n8 at hv8;have HN8:=hidIt hn8;clear hn8;subst hv8;have HO8:=hidIt ho8;have HG8:=hidIt hg8;clear ho8 hg8)
    have HBX8:=hidIt (box_kept HBX.out (by decide) HO2.out HG8.out)
    have HB8:=hidIt (below_kept HB2.out HZB.out HO2.out HG8.out)
    clear HOA HZ HZB HO2 HB2 HBX HG8
    obtain ⟨_,l0,l1,l2,l3,lf⟩:=cells4 HBX8.out
    have q1:¬ ((f1:Nat):Int) < 0:=by omega
    have q2:¬ (A.length:Int) < ((t1:Nat):Int):=by omega
    go_upto_region 11 with fail
    clear l0 l1 l2 l3 lf q1 q2
    have HTA:Hid (t1≤A.length∧A.length≤65536):=⟨by omega,hl⟩
    go_wp2_with fail
    go_loopw [11,15] (fun ov kv wk=>∃ (k:Nat) (ak:Option Addr) (nk ck:Nat),f1≤k∧k≤t1∧kv=.int .i64 (k:Nat)∧ov=.slice ak nk ck∧Hid (nk=(LL ++ [-9999] ++ (A.drop f1).take (k - f1)).length∧OwnI wk w.heap.size (.slice ak nk ck) (LL ++ [-9999] ++ (A.drop f1).take (k - f1))∧wk.heap[gl]?=some (.cells #[.int .i64 (f1:Nat),.int .i64 (t1:Nat),.int .i64 (n1:Nat),.int .i64 b1] 50 (0,0))∧Below w.heap.size w wk)) (fun _ kv _=>t1 - (intOf kv).toNat)
    case atStart=>exact ⟨f1,a8,n8,c8,Nat.le_refl _,hft,rfl,rfl,by unfold Hid;rw [Nat.sub_self,List.take_zero,List.append_nil];exact ⟨HN8.out.symm,HO8.out,HBX8.out,HB8.out⟩⟩
    case round =>
     obtain ⟨k,ak,nk,ck,hfk,hkt,rfl,rfl,HK⟩:=hrel
     obtain ⟨wk,rfl⟩:∃ wk,wk=wr:=⟨_,rfl⟩
     obtain ⟨_,_,l1,_,_,_⟩:=cells4 HK.out.2.2.1
     by_cases hk:k < t1
     ·have hkI:(k:Int) < ((t1:Nat):Int):=by omega
      obtain ⟨ab,ao9,rfl,_,cA,_⟩:=rd_at (HA.out.ext HK.out.2.2.2) k (by have:=HTA.out;omega)
      have hkl:(k:Int) < (A.length:Int):=by have:=HTA.out;omega
      obtain ⟨x,hx⟩:∃ x,A[k]?=some x:=⟨_,List.getElem?_eq_getElem (by have:=HTA.out;omega)⟩
      have HTK:Hid (LL ++ [-9999] ++ (A.drop f1).take (k + 1 - f1)=LL ++ [-9999] ++ (A.drop f1).take (k - f1) ++ [x]):=by
       unfold Hid
       rw [show k + 1 - f1=k - f1 + 1 by omega,List.take_add_one,List.getElem?_drop,show f1 + (k - f1)=k by omega,hx,List.append_assoc (LL ++ [-9999])]
       rfl
      rw [hx,Option.getD_some] at cA
      have HKL:Hid ((LL ++ [-9999] ++ (A.drop f1).take (k - f1)).length≤300000):=by
       have:=HLL.out;have:=HTA.out
       unfold Hid
       simp only [List.length_append,List.length_take,List.length_drop,List.length_singleton]
       omega
      have HKN:=hidIt HK.out.1
      have HKO:=hidIt HK.out.2.1
      have HKX:=hidIt HK.out.2.2.1
      have HKB:=hidIt HK.out.2.2.2
      clear HK hx
      generalize LL ++ [-9999] ++ (A.drop f1).take (k - f1)=L9 at *
      have HZB:Hid (w.heap.size≤wk.heap.size):=HKB.out.size
      have HOA:=hidIt (HKO.out.ext (ext_alloc (Below.refl wk.heap.size wk) (.cells #[.int .i64 x] 3)))
      have HZ:Hid (w.heap.size≤(wk.alloc (.cells #[.int .i64 x] 3)).heap.size):=Nat.le_trans HZB.out (size_alloc_le _ _)
      go_wp2_with (at_builtin;refine wpl_intsG rfl _ _ 27 rfl w.heap.size Tryz.info_i64 Tryz.underlying27 (.slice ak nk ck) L9 rfl HOA.out x ⟨wk.heap.size,0,none⟩ 1 rfl (rdi_new wk _) (by have:=HKL.out;omega) HZ.out ?_;intro v9 w9 ho9 hg9;obtain ⟨a9,c9,hv9⟩:=ho9.form;generalize hn9:(L9 ++ [x]).length=n9 at hv9;have HN9:=hidIt hn9;clear hn9;subst hv9;have HO9:=hidIt ho9;have HG9:=hidIt hg9;clear ho9 hg9)
      go_roundw
      case rel=>exact ⟨k + 1,a9,n9,c9,by omega,hk,by go_num,rfl,by unfold Hid;rw [HTK.out];exact ⟨HN9.out.symm,HO9.out,box_kept HKX.out (by decide) HKO.out HG9.out,below_kept HKB.out HZB.out HKO.out HG9.out⟩⟩
      case measure=>simp [intOf];omega
     ·obtain rfl:t1=k:=by omega
      have hkI:¬ ((t1:Nat):Int) < ((t1:Nat):Int):=by omega
      have HST2:Hid (ctF enc A f l (i + 1)=LL ++ [-9999] ++ (A.drop f1).take (t1 - f1)):=by unfold Hid;rw [HST.out,List.append_assoc];rfl
      go_wp2_with fail
      go_roundw
      case rel=>exact ⟨i + 1,ak,nk,ck,hlt,by go_num,rfl,by unfold Hid;rw [HST2.out];exact ⟨HK.out.1,HK.out.2.1,HK.out.2.2.2⟩⟩
      case measure=>simp [intOf];omega
  ·obtain rfl:i=m:=by omega
   have hnl:¬ ((i:Nat):Int) < ((i:Nat):Int):=by omega
   go_wp2_with fail
   go_ret
   exact ⟨_,rfl,HI.out.2.1,HI.out.2.2⟩
end Go.Proofs.YtjomfbegghgbdaaGreat.P
