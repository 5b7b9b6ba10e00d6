import Derived.Test.YtdkpkncolpapoaaGreatJ00
import Derived.Test.YtdkpkncolpapoaaGreatJ33
import Derived.Test.YtdkpkncolpapoaaGreatJ31
import Derived.Test.YtdkpkncolpapoaaGreatJ35
namespace Go.Proofs.YtdkpkncolpapoaaGreat.P
open Go.RowKit
def nb (b:Int) (cr:Bool) (a:Int):Int:=b + (if a=10∨a=13 then 1 else 0) - (if cr=true∧a=10 then 1 else 0)
theorem nb_ge (b:Int) (cr:Bool) (a:Int):b≤nb b cr a∧nb b cr a≤b + 1:=by
 unfold nb
 by_cases h:a=10
 ·subst h;by_cases hc:cr=true <;> simp [hc] <;> omega
 ·simp only [h,false_or,and_false,if_false]
  split <;> omega
theorem spn_nb (enc:Int) (l:List Int) (a:Int):(spn enc (l ++ [a])).b=nb (spn enc l).b (spn enc l).cr a∧(spn enc (l ++ [a])).cr=decide (a=13):=by
 rw [spn_snoc]
 have ok:=spn_ok enc l
 unfold Rs.add
 by_cases h0:(spn enc l).a=0
 ·rw [if_pos h0]
  have hz:=ok.z h0
  rw [hz]
  unfold sg nb Rs.zero
  simp
 ·rw [if_neg h0,if_neg (by unfold sg;simp)]
  unfold sg nb Rs.mlt
  simp only [decide_eq_true_eq]
  constructor <;> first | trivial | rfl
def skL (k:Int):Int→Bool→List Int→Nat
 | _,_,[]=>0
 | b,cr,a :: l=>if b=k then (if cr=true∧a=10 then 1 else 0) else 1 + skL k (nb b cr a) (decide (a=13)) l
theorem skL_skip (enc:Int) (k:Int) (l2:List Int):∀ (n:Nat) (l1:List Int),l1.length=n→(spn enc l1).b < k→skL k 0 false (l1 ++ l2)=l1.length + skL k (spn enc l1).b (spn enc l1).cr l2:=by
 intro n
 induction n generalizing l2 with
 | zero =>
   intro l1 hl _
   obtain rfl:=List.length_eq_zero_iff.1 hl
   rw [spn_nil]
   simp [Rs.zero]
 | succ n ih =>
   intro l1 hl hb
   obtain ⟨l,a,rfl⟩:∃ l a,l1=l ++ [a]:=⟨l1.dropLast,l1.getLast (by intro e;subst e;simp at hl),(List.dropLast_concat_getLast _).symm⟩
   have hll:l.length=n:=by simpa using hl
   obtain ⟨e1,e2⟩:=spn_nb enc l a
   have hg:=nb_ge (spn enc l).b (spn enc l).cr a
   rw [e1] at hb
   rw [List.append_assoc,List.singleton_append,ih (a :: l2) l hll (by omega),skL,if_neg (by omega),e1,e2]
   simp
   omega
end Go.Proofs.YtdkpkncolpapoaaGreat.P

namespace Go.Proofs.YtdkpkncolpapoaaGreat.P
open Go.RowKit
def skA (enc:Int) (A:List Int) (k:Int):Int:=if k=0 then 0 else if k < 0∨(spn enc A).b < k then -1 else (skL k 0 false A:Nat)
def bAt (enc:Int) (A:List Int) (p:Nat):Int:=(spn enc (A.take p)).b - (if (spn enc (A.take p)).cr=true∧A[p]?=some 10 then 1 else 0)
def isE (A:List Int) (p:Nat):Bool:=decide (A[p]?=some 10∨(A[p]?=some 13∧A[p + 1]?≠some 10))
theorem bAt_zero (enc:Int) (A:List Int):bAt enc A 0=0:=by
 unfold bAt
 rw [List.take_zero,spn_nil]
 simp [Rs.zero]
theorem bAt_succ (enc:Int) (A:List Int) (p:Nat) (h:p < A.length):bAt enc A (p + 1)=bAt enc A p + (if isE A p=true then 1 else 0):=by
 obtain ⟨a,ha⟩:∃ a,A[p]?=some a:=⟨_,List.getElem?_eq_getElem h⟩
 have et:A.take (p + 1)=A.take p ++ [a]:=by rw [List.take_add_one,ha];rfl
 obtain ⟨e1,e2⟩:=spn_nb enc (A.take p) a
 unfold bAt isE
 rw [et,e1,e2,ha]
 unfold nb
 simp only [Option.some.injEq,decide_eq_true_eq]
 generalize (spn enc (A.take p)).b=b
 generalize (spn enc (A.take p)).cr=c
 by_cases h10:a=10
 ·subst h10
  cases c <;> simp
 ·by_cases h13:a=13
  ·subst h13
   by_cases hn:A[p + 1]?=some 10 <;> simp [hn]
  ·simp [h10,h13]
theorem bAt_len (enc:Int) (A:List Int) (p:Nat) (h:A.length≤p):bAt enc A p=(spn enc A).b:=by
 unfold bAt
 rw [List.take_of_length_le h,List.getElem?_eq_none h]
 simp
theorem bAt_mono (enc:Int) (A:List Int) (p q:Nat) (h:p≤q):bAt enc A p≤bAt enc A q:=by
 induction q with
 | zero=>obtain rfl:p=0:=by omega
         exact Int.le_refl _
 | succ q ih =>
   rcases Nat.lt_or_ge q p with h1 | h1
   ·obtain rfl:p=q + 1:=by omega
    exact Int.le_refl _
   ·have:=ih h1
    rcases Nat.lt_or_ge q A.length with h2 | h2
    ·rw [bAt_succ enc A q h2]
     split <;> omega
    ·rw [bAt_len enc A (q + 1) (by omega),← bAt_len enc A q h2]
     exact this
theorem bAt_nn (enc:Int) (A:List Int) (p:Nat):0≤bAt enc A p:=by
 have:=bAt_mono enc A 0 p (Nat.zero_le _)
 rw [bAt_zero] at this
 exact this
theorem brk_at (enc:Int) (A:List Int) (z:Int):brk enc A z=bAt enc A z.toNat:=by
 unfold brk
 by_cases h0:z≤0
 ·rw [if_pos h0,show z.toNat=0 by omega,bAt_zero]
 ·rw [if_neg h0]
  by_cases h1:(A.length:Int)≤z
  ·rw [if_pos h1,bAt_len enc A _ (by omega)]
  ·rw [if_neg h1]
   unfold bAt
   have hl:z.toNat < A.length:=by omega
   obtain ⟨a,ha⟩:∃ a,A[z.toNat]?=some a:=⟨_,List.getElem?_eq_getElem hl⟩
   rw [drop_of ha,spn_lf,ha]
   simp only [Option.some.injEq,decide_eq_true_eq]
theorem skL_at (enc:Int) (A:List Int) (k:Int):∀ (rest pre:List Int),A=pre ++ rest→(spn enc pre).b≤k→(∀ l a,pre=l ++ [a]→(spn enc l).b < k)→0 < k→k≤(spn enc A).b →
  1≤pre.length + skL k (spn enc pre).b (spn enc pre).cr rest∧pre.length + skL k (spn enc pre).b (spn enc pre).cr rest≤A.length∧bAt enc A (pre.length + skL k (spn enc pre).b (spn enc pre).cr rest)=k∧bAt enc A (pre.length + skL k (spn enc pre).b (spn enc pre).cr rest - 1) < k:=by
 intro rest
 induction rest with
 | nil =>
   intro pre hA hb hl h0 hk
   rw [List.append_nil] at hA
   subst hA
   have hne:A≠[]:=fun e=>by subst e;rw [spn_nil] at hk;simp [Rs.zero] at hk;omega
   have hpos:=List.length_pos_iff.2 hne
   have e:skL k (spn enc A).b (spn enc A).cr []=0:=rfl
   rw [e,Nat.add_zero]
   refine ⟨hpos,Nat.le_refl _,?_,?_⟩
   ·rw [bAt_len enc A _ (Nat.le_refl _)];omega
   ·have h1:=hl A.dropLast (A.getLast hne) (List.dropLast_concat_getLast hne).symm
    unfold bAt
    rw [← List.dropLast_eq_take]
    split <;> omega
 | cons a rest ih =>
   intro pre hA hb hl h0 hk
   have hga:A[pre.length]?=some a:=by rw [hA,List.getElem?_append_right (Nat.le_refl _)];simp
   have htk:A.take pre.length=pre:=by rw [hA,List.take_left]
   have hal:pre.length < A.length:=by rw [hA];simp
   rw [skL]
   by_cases hbk:(spn enc pre).b=k
   ·rw [if_pos hbk]
    have hne:pre≠[]:=fun e=>by subst e;rw [spn_nil] at hbk;simp [Rs.zero] at hbk;omega
    have hpos:=List.length_pos_iff.2 hne
    have hlast:=hl pre.dropLast (pre.getLast hne) (List.dropLast_concat_getLast hne).symm
    have hm1:bAt enc A (pre.length - 1) < k:=by
     unfold bAt
     rw [hA,List.take_append_of_le_length (by omega),← List.dropLast_eq_take]
     split <;> omega
    by_cases hc:(spn enc pre).cr=true∧a=10
    ·rw [if_pos hc]
     have hB:bAt enc A pre.length=k - 1:=by
      unfold bAt
      rw [htk,hga,if_pos ⟨hc.1,by rw [hc.2]⟩]
      omega
     refine ⟨by omega,by omega,?_,?_⟩
     ·rw [bAt_succ enc A _ hal,hB]
      unfold isE
      rw [hga]
      simp [hc.2]
     ·rw [Nat.add_sub_cancel,hB];omega
    ·rw [if_neg hc,Nat.add_zero]
     refine ⟨hpos,by omega,?_,hm1⟩
     unfold bAt
     rw [htk,hga,if_neg (fun e=>hc ⟨e.1,Option.some.inj e.2⟩)]
     omega
   ·rw [if_neg hbk]
    obtain ⟨e1,e2⟩:=spn_nb enc pre a
    have hg:=nb_ge (spn enc pre).b (spn enc pre).cr a
    have:=ih (pre ++ [a]) (by rw [hA];simp) (by rw [e1];omega) (fun l x e=>by
     obtain ⟨rfl,_⟩:=List.append_inj' e rfl
     omega) h0 hk
    rw [e1,e2,List.length_append,List.length_singleton] at this
    rw [← Nat.add_assoc]
    exact this
theorem skA_at (enc:Int) (A:List Int) (k:Int) (h0:0 < k) (hk:k≤(spn enc A).b):∃ p:Nat,skA enc A k=p∧1≤p∧p≤A.length∧bAt enc A p=k∧bAt enc A (p - 1) < k:=by
 have:=skL_at enc A k A [] rfl (by rw [spn_nil];simp [Rs.zero];omega) (fun l a e=>by simp at e) h0 hk
 rw [spn_nil,List.length_nil,Nat.zero_add] at this
 refine ⟨skL k 0 false A,?_,this.1,this.2.1,this.2.2.1,this.2.2.2⟩
 unfold skA
 rw [if_neg (by omega),if_neg (by omega)]
theorem skA_uniq (enc:Int) (A:List Int) (k:Int) (h0:0 < k) (hk:k≤(spn enc A).b) (p:Nat) (h1:1≤p) (h2:bAt enc A p=k) (h3:bAt enc A (p - 1) < k):skA enc A k=p:=by
 obtain ⟨q,e,q1,_,q2,q3⟩:=skA_at enc A k h0 hk
 rw [e]
 rcases Nat.lt_trichotomy p q with h | h | h
 ·have:=bAt_mono enc A p (q - 1) (by omega);omega
 ·rw [h]
 ·have:=bAt_mono enc A q (p - 1) (by omega);omega
def gE (A:List Int):Nat→List Int
 | 0=>[]
 | d + 1=>gE A d ++ (if isE A (A.length - d - 1)=true then [((A.length - d:Nat):Int)] else [])
theorem gE_len (enc:Int) (A:List Int) (d:Nat) (h:d≤A.length):((gE A d).length:Int)=(spn enc A).b - bAt enc A (A.length - d):=by
 induction d with
 | zero=>rw [bAt_len enc A _ (by omega)];simp [gE]
 | succ d ih =>
   have i1:=ih (by omega)
   have e:=bAt_succ enc A (A.length - d - 1) (by omega)
   rw [show A.length - d - 1 + 1=A.length - d by omega] at e
   rw [gE,List.length_append,show A.length - (d + 1)=A.length - d - 1 by omega]
   split
   ·rename_i h1
    rw [if_pos h1] at e
    simp only [List.length_cons,List.length_nil]
    omega
   ·rename_i h1
    rw [if_neg h1] at e
    simp only [List.length_nil]
    omega
theorem gE_at (enc:Int) (A:List Int) (d:Nat) (h:d≤A.length):∀ (j:Nat) (z:Int),(gE A d)[j]?=some z→∃ p:Nat,z=p∧1≤p∧p≤A.length∧bAt enc A p=(spn enc A).b - j∧bAt enc A (p - 1)=(spn enc A).b - j - 1:=by
 induction d with
 | zero=>intro j z hz;simp [gE] at hz
 | succ d ih =>
   intro j z hz
   rw [gE] at hz
   rcases Nat.lt_or_ge j (gE A d).length with h1 | h1
   ·rw [List.getElem?_append_left h1] at hz
    exact ih (by omega) j z hz
   ·rw [List.getElem?_append_right h1] at hz
    split at hz
    ·rename_i h2
     have hj:j - (gE A d).length=0:=by
      have:=(List.getElem?_eq_some_iff.1 hz).1
      simp at this
      omega
     rw [hj] at hz
     simp only [List.getElem?_cons_zero,Option.some.injEq] at hz
     have hlen:=gE_len enc A d (by omega)
     have e:=bAt_succ enc A (A.length - d - 1) (by omega)
     rw [show A.length - d - 1 + 1=A.length - d by omega,if_pos h2] at e
     exact ⟨A.length - d,hz.symm,by omega,by omega,by omega,by omega⟩
    ·simp at hz
theorem seam_at (enc:Int) (A:List Int) (z k:Int) (hk:k=brk enc A z) :
  0≤k∧k≤((gE A A.length).length:Int)∧((gE A A.length).length:Int)=(spn enc A).b ∧
  (0 < k→∃ e,(gE A A.length)[((gE A A.length).length - k).toNat]?=some e∧e≤z∧skA enc A k=e∧brk enc A e=k) ∧
  (k < ((gE A A.length).length:Int)→∃ e,(gE A A.length)[((gE A A.length).length - k - 1).toNat]?=some e∧z < e):=by
 have hn:((gE A A.length).length:Int)=(spn enc A).b:=by
  have:=gE_len enc A A.length (Nat.le_refl _)
  rw [Nat.sub_self,bAt_zero] at this
  omega
 have hk2:k=bAt enc A z.toNat:=by rw [hk,brk_at]
 have hk0:0≤k:=by rw [hk2];exact bAt_nn _ _ _
 have hkn:k≤(spn enc A).b:=by
  rw [hk2,← bAt_len enc A (max A.length z.toNat) (by omega)]
  exact bAt_mono _ _ _ _ (by omega)
 refine ⟨hk0,by omega,hn,fun h=>?_,fun h=>?_⟩
 ·obtain ⟨e,he⟩:∃ e,(gE A A.length)[((gE A A.length).length - k).toNat]?=some e:=⟨_,List.getElem?_eq_getElem (by omega)⟩
  obtain ⟨p,rfl,p1,p2,p3,p4⟩:=gE_at enc A A.length (Nat.le_refl _) _ _ he
  have e1:bAt enc A p=k:=by omega
  have e2:bAt enc A (p - 1)=k - 1:=by omega
  refine ⟨_,he,?_,skA_uniq enc A k h hkn p p1 e1 (by omega),by rw [brk_at,Int.toNat_natCast];exact e1⟩
  rcases Int.lt_or_le z p with h1 | h1
  ·have:=bAt_mono enc A z.toNat (p - 1) (by omega)
   omega
  ·exact h1
 ·obtain ⟨e,he⟩:∃ e,(gE A A.length)[((gE A A.length).length - k - 1).toNat]?=some e:=⟨_,List.getElem?_eq_getElem (by omega)⟩
  obtain ⟨p,rfl,p1,p2,p3,p4⟩:=gE_at enc A A.length (Nat.le_refl _) _ _ he
  refine ⟨_,he,?_⟩
  rcases Int.lt_or_le z p with h1 | h1
  ·exact h1
  ·have:=bAt_mono enc A p z.toNat (by omega)
   omega
end Go.Proofs.YtdkpkncolpapoaaGreat.P

namespace Go.Proofs.YtdkpkncolpapoaaGreat.P
open Go.RowKit
theorem rdi_new (w:World) (x:Int):∀ j u,([x].map (Value.int .i64))[j]?=some u→(w.alloc (.cells #[.int .i64 x] 3)).cell? ((⟨w.heap.size,0,none⟩:Addr).add j)=some u:=fun j u hj=>by
 cases j with
 | zero =>
   simp only [List.map_cons,List.getElem?_cons_zero,Option.some.injEq] at hj
   subst hj
   rw [show ((⟨w.heap.size,0,none⟩:Addr).add 0)=⟨w.heap.size,0,none⟩ from rfl,cell_of_row _ _ _ _ _ _ (heap_alloc_new _ _)]
   rfl
 | succ j=>simp at hj
theorem gE_le (A:List Int) (d:Nat):(gE A d).length≤d:=by
 induction d with
 | zero=>simp [gE]
 | succ d ih =>
   rw [gE,List.length_append]
   split <;> simp <;> omega
set_option maxRecDepth 100000 in
set_option maxHeartbeats 8000000 in
theorem ends_any (va:Value) (A:List Int) (w:World) (hA:Rd .i64 w va A) (hl:A.length≤65536) :
  Calls Tryz.prog 32 #[va] w fun e w'=>∃ (ao:Option Addr) (n cap:Nat),e=.returned (.slice ao n cap)∧Hid (n=(gE A A.length).length∧OwnI w' w.heap.size (.slice ao n cap) (gE A A.length))∧Below w.heap.size w w':=by
 obtain ⟨aa,ca,rfl,ha1,ha2,_⟩:=id hA
 have HA:=hidIt hA
 clear hA
 have HI0:Hid (0=(gE A 0).length∧OwnI w w.heap.size (.slice none 0 0) (gE A 0)∧Below w.heap.size w w):=⟨rfl,World.ownsRow_nil _ _ _ _,Below.refl _ _⟩
 go_enter Tryz.func32,Tryz.ntmps32
 go_wp2_with fail
 go_loopg [3,4] A.length (fun gk lv p wr=>∃ (d:Nat) (ao:Option Addr) (n cap:Nat) (m:Int),d + gk=A.length∧p=.int .i64 m∧lv=.slice ao n cap∧Hid (m=(A.length:Int) - 1 - d)∧Hid (n=(gE A d).length∧OwnI wr w.heap.size (.slice ao n cap) (gE A d)∧Below w.heap.size w wr))
 case atStart=>exact ⟨0,none,0,0,_,by omega,rfl,rfl,by unfold Hid;go_num,HI0.out⟩
 case round =>
  obtain ⟨d,ao,n,cap,m,hd,rfl,rfl,HM,HI⟩:=hrel
  by_cases hdl:d < A.length
  ·obtain ⟨i,rfl⟩:∃ i:Nat,m=i:=⟨m.toNat,by have:=HM.out;omega⟩
   have hid:i + 1 + d=A.length:=by have:=HM.out;omega
   have HID:=hidIt hid
   have HDG:=hidIt hd
   have hi0:(0:Int)≤(i:Int):=by omega
   have hil:i < A.length:=by omega
   have hil2:i≤65536:=by omega
   have HIE:Hid (A.length - d - 1=i∧A.length - d=i + 1):=⟨by omega,by omega⟩
   obtain ⟨b,o,rfl,hbl,ci,_⟩:=rd_at (HA.out.ext HI.out.2.2) i hil
   obtain ⟨x,hx⟩:∃ x,A[i]?=some x:=⟨_,List.getElem?_eq_getElem hil⟩
   rw [hx,Option.getD_some] at ci
   have HX:=hidIt hx
   have hilI:(i:Int) < (A.length:Int):=by omega
   have hNX:Hid (∀ y,A[i + 1]?=some y→wr.cell? ⟨b,o + (i + 1),none⟩=some (.int .i64 y)):=fun y hy=>by
    obtain ⟨b',o',e1,_,c',_⟩:=rd_at (HA.out.ext HI.out.2.2) (i + 1) (List.getElem?_eq_some_iff.1 hy).1
    cases e1
    rw [hy,Option.getD_some] at c'
    exact c'
   have hdm:d < 65536:=by omega
   clear hx hid HM hd hdl
   go_upto_region 5 with fail
   go_cut [39] from 12 to 38 (fun v wF=>v=.bool (isE A i)∧wF=wr)
   case first =>
    by_cases h10:x=10
    ·have HV:=hidIt (show isE A i=true by unfold isE;rw [HX.out,h10];simp)
     subst h10
     go_wp2_with fail
     go_meet
     case rel=>exact ⟨by rw [HV.out],rfl⟩
    by_cases h13:x=13
    ·subst h13
     by_cases hn:i + 1 < A.length
     ·have hnI:(i:Int) + 1 < (A.length:Int):=by omega
      obtain ⟨y,hy⟩:∃ y,A[i + 1]?=some y:=⟨_,List.getElem?_eq_getElem hn⟩
      have cy:=hNX.out y hy
      by_cases hy10:y=10
      ·have HV:=hidIt (show isE A i=false by unfold isE;rw [HX.out,hy,hy10];simp)
       subst hy10
       clear hy
       go_wp2_with fail
       go_meet
       case rel=>exact ⟨by rw [HV.out],rfl⟩
      ·have HV:=hidIt (show isE A i=true by unfold isE;rw [HX.out,hy];simp [hy10])
       clear hy
       go_wp2_with fail
       go_meet
       case rel=>exact ⟨by rw [HV.out];simp [hy10],rfl⟩
     ·have hnI:¬ (i:Int) + 1 < (A.length:Int):=by omega
      have HV:=hidIt (show isE A i=true by unfold isE;rw [HX.out,List.getElem?_eq_none (by omega)];simp)
      go_wp2_with fail
      go_meet
      case rel=>exact ⟨by rw [HV.out],rfl⟩
    ·have HV:=hidIt (show isE A i=false by unfold isE;rw [HX.out];simp [h10,h13])
     go_wp2_with fail
     go_meet
     case rel=>exact ⟨by rw [HV.out];simp [h10],rfl⟩
   obtain ⟨rfl,hwc⟩:=hcut
   obtain rfl:wr=wc:=hwc.symm
   clear hwc
   have HD1:Hid (gE A (d + 1)=gE A d ++ (if isE A i=true then [((i + 1:Nat):Int)] else [])):=by unfold Hid;rw [gE,HIE.out.1,HIE.out.2]
   cases he:isE A i with
   | true =>
     rw [he,if_pos rfl] at HD1
     have HOA:Hid (OwnI (wr.alloc (.cells #[.int .i64 ((i + 1:Nat):Int)] 3)) w.heap.size (.slice ao n cap) (gE A d)):=HI.out.2.1.ext (ext_alloc (Below.refl _ _) _)
     have HNW:=hidIt (rdi_new wr ((i + 1:Nat):Int))
     have HZ:=hidIt (show w.heap.size≤(wr.alloc (.cells #[.int .i64 ((i + 1:Nat):Int)] 3)).heap.size from Nat.le_trans HI.out.2.2.size (size_alloc_le _ _))
     have HLN:=hidIt (show (gE A d).length + [((i + 1:Nat):Int)].length≤1099511627776 by have:=gE_le A d;simp;omega)
     have HBI:=hidIt HI.out.2.2
     have hwi:IntKind.i64.wrap ((i:Int) + 1)=((i + 1:Nat):Int):=by rw [IntKind.wrap_i64];omega
     go_wp2_with (at_builtin;refine wpl_ints rfl _ _ 22 rfl w.heap.size Tryz.info_i64 Tryz.underlying22 (.slice ao n cap) (gE A d) rfl HOA.out [((i + 1:Nat):Int)] (some ⟨wr.heap.size,0,none⟩) 1 1 rfl rfl (.inr ⟨_,rfl,HNW.out⟩) HLN.out HZ.out ?_;intro v8 w8 ho8 hb8;obtain ⟨a8,c8,hv8⟩:=ho8.form;generalize hn8:(gE A d ++ [((i + 1:Nat):Int)]).length=n8 at hv8;have HN8:=hidIt hn8;clear hn8;subst hv8;have HO8:=hidIt ho8;have HB8:=hidIt (HBI.out.trans ((ext_alloc (Below.refl wr.heap.size wr) _).mono HBI.out.size |>.trans hb8));clear ho8 hb8)
     go_roundg (A.length - (d + 1))
     case rel=>exact ⟨d + 1,a8,n8,c8,_,by have:=HID.out;omega,rfl,rfl,by unfold Hid;have:=HID.out;go_num,by unfold Hid;rw [HD1.out,HN8.out];exact ⟨rfl,HO8.out,HB8.out⟩⟩
     case measure=>have:=HID.out;have:=HDG.out;omega
   | false =>
     rw [he,if_neg (by decide),List.append_nil] at HD1
     go_wp2_with fail
     go_roundg (A.length - (d + 1))
     case rel=>exact ⟨d + 1,ao,n,cap,_,by have:=HID.out;omega,rfl,rfl,by unfold Hid;have:=HID.out;go_num,by unfold Hid;rw [HD1.out];exact HI.out⟩
     case measure=>have:=HID.out;have:=HDG.out;omega
  ·obtain rfl:d=A.length:=by omega
   have hm:¬ (0:Int)≤m:=by have:=HM.out;omega
   clear HM
   go_wp2_with fail
   go_ret
   exact ⟨ao,n,cap,rfl,⟨HI.out.1,HI.out.2.1⟩,HI.out.2.2⟩
end Go.Proofs.YtdkpkncolpapoaaGreat.P
