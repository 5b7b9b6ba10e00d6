import Derived.Test.YtjomfbegghgbdaaGreatJ00
import Derived.Test.YtjomfbegghgbdaaGreatJ28
import Derived.Test.YtjomfbegghgbdaaGreatJ34
namespace Go.Proofs.YtjomfbegghgbdaaGreat.P
open Go.RowKit
theorem kC_first (enc:Int) (A:List Int):∀ m:Nat,(m:Int)≤(spn enc A).b→kC (alF enc A m) 1 + kC (alF enc A m) 2 + kC (alF enc A m) 3=m
 | 0,_=>rfl
 | m + 1,h=>by
   have ih:=kC_first enc A m (by omega)
   obtain ⟨h1,h2,_⟩:=ln_mid enc A m (by omega)
   rw [alF_succ,kC_snoc,kC_snoc,kC_snoc]
   simp only
   by_cases e1:(lnK enc A (m:Nat)).b=1
   ·rw [e1,if_pos rfl,if_neg (by decide),if_neg (by decide)];omega
   ·by_cases e2:(lnK enc A (m:Nat)).b=2
    ·rw [e2,if_neg (by decide),if_pos rfl,if_neg (by decide)];omega
    ·have e3:(lnK enc A (m:Nat)).b=3:=by omega
     rw [e3,if_neg (by decide),if_neg (by decide),if_pos rfl];omega
theorem kC_breaks (enc:Int) (A:List Int):((kC (al enc A) 1 + kC (al enc A) 2 + kC (al enc A) 3:Nat):Int)=(spn enc A).b:=by
 have h0:=spn_nn enc A
 obtain ⟨B,hB⟩:∃ B:Nat,(spn enc A).b=B:=⟨(spn enc A).b.toNat,by omega⟩
 have h1:=kC_first enc A B (by omega)
 obtain ⟨h2,h3⟩:=ln_last enc A B hB.symm
 unfold al
 rcases h3 with ⟨_,e⟩ | ⟨_,e⟩
 ·rw [e,show ((B:Int)).toNat=B by omega,h1,hB]
 ·rw [e,show ((B:Int) + 1).toNat=B + 1 by omega,alF_succ,kC_snoc,kC_snoc,kC_snoc]
  simp only
  rw [h2,if_neg (by decide),if_neg (by decide),if_neg (by decide),Nat.add_zero,Nat.add_zero,Nat.add_zero,h1,hB]
set_option maxRecDepth 100000 in
theorem breaks_z (enc:Int) (w:World) (t:Nat) (A:List Int) (h:Tz enc w t A):Calls Tryz.prog 35 #[.pointer (some ⟨t,0,none⟩)] w fun e w'=>e=.returned (.int .i64 (spn enc A).b)∧Below w.heap.size w w':=by
 have KN:=hidIt (Kinds_z enc w t A h)
 have hk:=kC_breaks enc A
 have hlA:=h.len
 have hal:=al_len enc A
 have l1:=kC_le (al enc A) 1
 have l2:=kC_le (al enc A) 2
 have l3:=kC_le (al enc A) 3
 generalize (spn enc A).b=B at *
 generalize kC (al enc A) 0=e0 at *
 generalize kC (al enc A) 1=e1 at *
 generalize kC (al enc A) 2=e2 at *
 generalize kC (al enc A) 3=e3 at *
 have HK:=hidIt hk
 clear hk h
 go_enter Tryz.func35,Tryz.ntmps35
 go_upto_region 2 with (go_at_call 28;refine KN.out.mono ?_;rintro e y2 ⟨rfl,hb⟩;have Hy2:=hidIt hb;clear hb;(try dsimp only))
 generalize hy3:World.alloc _ _=y3
 have HY3:Hid (Below w.heap.size w y3∧y3.heap[y2.heap.size]?=some (.cells #[.int .i64 (e0:Nat),.int .i64 (e1:Nat),.int .i64 (e2:Nat),.int .i64 (e3:Nat)] 53 (0,0))):=by unfold Hid;rw [← hy3];exact ⟨ext_trans Hy2.out (ext_alloc (Below.refl _ _) _),heap_alloc_new _ _⟩
 clear hy3
 obtain ⟨_,d0,d1,d2,d3,_⟩:=cells4 HY3.out.2
 go_wp2_with fail
 go_ret
 exact ⟨by rw [← HK.out];go_num,HY3.out.1⟩
theorem spl_at (A put:List Int) (p:Nat) (hp:p≤A.length) (i:Nat):(spl A p p put)[i]?=if i < p then A[i]? else if i < p + put.length then put[i - p]? else A[i - put.length]?:=by
 unfold spl
 have hl:(A.take p).length=p:=by rw [List.length_take];omega
 by_cases h1:i < p
 ·rw [if_pos h1,List.append_assoc,List.getElem?_append_left (by omega),List.getElem?_take,if_pos h1]
 ·rw [if_neg h1]
  by_cases h2:i < p + put.length
  ·rw [if_pos h2,List.append_assoc,List.getElem?_append_right (by omega),hl,List.getElem?_append_left (by omega)]
  ·rw [if_neg h2,List.getElem?_append_right (by rw [List.length_append];omega),List.length_append,hl,List.getElem?_drop]
   congr 1
   omega
theorem spl_len (A put:List Int) (p:Nat) (hp:p≤A.length):(spl A p p put).length=A.length + put.length:=by
 unfold spl
 rw [List.length_append,List.length_append,List.length_take,List.length_drop]
 omega
def sm2 (A:List Int) (p:Nat):List Int:=spl A p p [13,10]
def sm3 (A:List Int) (p:Nat):List Int:=spl A p p [13,120,10]
theorem sm_two (A:List Int) (p:Nat) (hp:p≤A.length):spl (spl A p p [10]) p p [13]=sm2 A p:=by
 unfold sm2 spl
 have hl:(A.take p).length=p:=by rw [List.length_take];omega
 rw [List.append_assoc (A.take p),List.take_left' hl,List.drop_left' hl]
 simp
theorem sm_three (A:List Int) (p:Nat) (hp:p≤A.length):spl (sm2 A p) (p + 1) (p + 1) [120]=sm3 A p:=by
 unfold sm2 sm3 spl
 have hl:(A.take p ++ [13]).length=p + 1:=by rw [List.length_append,List.length_take];simp;omega
 rw [show A.take p ++ [13,10] ++ A.drop p=(A.take p ++ [13]) ++ ([10] ++ A.drop p) by simp,List.take_left' hl,List.drop_left' hl]
 simp
theorem sm_back (A:List Int) (p:Nat) (hp:p≤A.length):spl (sm3 A p) (p + 1) (p + 2) []=sm2 A p:=by
 unfold sm2 sm3 spl
 have hl:(A.take p ++ [13]).length=p + 1:=by rw [List.length_append,List.length_take];simp;omega
 have hl2:(A.take p ++ [13,120]).length=p + 2:=by rw [List.length_append,List.length_take];simp;omega
 have e1:(A.take p ++ [13,120,10] ++ A.drop p).take (p + 1)=A.take p ++ [13]:=by rw [show A.take p ++ [13,120,10] ++ A.drop p=(A.take p ++ [13]) ++ ([120,10] ++ A.drop p) by simp,List.take_left' hl]
 have e2:(A.take p ++ [13,120,10] ++ A.drop p).drop (p + 2)=[10] ++ A.drop p:=by rw [show A.take p ++ [13,120,10] ++ A.drop p=(A.take p ++ [13,120]) ++ ([10] ++ A.drop p) by simp,List.drop_left' hl2]
 rw [e1,e2]
 simp
section
variable {enc:Int} {A:List Int} {p:Nat} (hp:p≤A.length)
include hp
theorem sm2_13:(sm2 A p)[p]?=some 13:=by unfold sm2;rw [spl_at A _ p hp,if_neg (by omega),if_pos (by simp),show p - p=0 by omega];rfl
theorem sm2_10:(sm2 A p)[p + 1]?=some 10:=by unfold sm2;rw [spl_at A _ p hp,if_neg (by omega),if_pos (by simp),show p + 1 - p=1 by omega];rfl
theorem sm3_13:(sm3 A p)[p]?=some 13:=by unfold sm3;rw [spl_at A _ p hp,if_neg (by omega),if_pos (by simp),show p - p=0 by omega];rfl
theorem sm3_x:(sm3 A p)[p + 1]?=some 120:=by unfold sm3;rw [spl_at A _ p hp,if_neg (by omega),if_pos (by simp),show p + 1 - p=1 by omega];rfl
theorem sm3_10:(sm3 A p)[p + 2]?=some 10:=by unfold sm3;rw [spl_at A _ p hp,if_neg (by omega),if_pos (by simp),show p + 2 - p=2 by omega];rfl
theorem sm2_mid:bAt enc (sm2 A p) (p + 1)=bAt enc (sm2 A p) p:=by
 rw [bAt_succ enc _ p (by have:=(List.getElem?_eq_some_iff.1 (sm2_13 (A:=A) hp)).1;exact this)]
 unfold isE
 rw [sm2_13 hp,sm2_10 hp]
 simp
theorem sm3_mid:bAt enc (sm3 A p) (p + 1)=bAt enc (sm3 A p) p + 1:=by
 rw [bAt_succ enc _ p (by have:=(List.getElem?_eq_some_iff.1 (sm3_13 (A:=A) hp)).1;exact this)]
 unfold isE
 rw [sm3_13 hp,sm3_x hp]
 simp
theorem sm_same:∀ i,i≤p→bAt enc (sm2 A p) i=bAt enc (sm3 A p) i:=by
 intro i
 induction i with
 | zero=>intro _;rw [bAt_zero,bAt_zero]
 | succ i ih =>
   intro hi
   have hl2:i < (sm2 A p).length:=by unfold sm2;rw [spl_len A _ p hp];omega
   have hl3:i < (sm3 A p).length:=by unfold sm3;rw [spl_len A _ p hp];omega
   rw [bAt_succ enc _ i hl2,bAt_succ enc _ i hl3,ih (by omega)]
   have e0:(sm2 A p)[i]?=(sm3 A p)[i]?:=by unfold sm2 sm3;rw [spl_at A _ p hp,spl_at A _ p hp,if_pos (by omega),if_pos (by omega)]
   have e1:(sm2 A p)[i + 1]?=(sm3 A p)[i + 1]?:=by
    rcases Nat.lt_or_ge (i + 1) p with h | h
    ·unfold sm2 sm3;rw [spl_at A _ p hp,spl_at A _ p hp,if_pos h,if_pos h]
    ·rw [show i + 1=p by omega,sm2_13 hp,sm3_13 hp]
   unfold isE
   rw [e0,e1]
theorem sm_rest:∀ i,p + 2 + i≤(sm2 A p).length→bAt enc (sm3 A p) (p + 3 + i)=bAt enc (sm2 A p) (p + 2 + i) + 1:=by
 have l2:(sm2 A p).length=A.length + 2:=by unfold sm2;rw [spl_len A _ p hp];rfl
 have l3:(sm3 A p).length=A.length + 3:=by unfold sm3;rw [spl_len A _ p hp];rfl
 intro i
 induction i with
 | zero =>
   intro _
   have a1:=bAt_succ enc (sm2 A p) (p + 1) (by omega)
   have a2:=bAt_succ enc (sm3 A p) (p + 1 + 1) (by omega)
   have a3:=bAt_succ enc (sm3 A p) (p + 1) (by omega)
   have b1:isE (sm2 A p) (p + 1)=true:=by unfold isE;rw [sm2_10 hp];simp
   have b2:isE (sm3 A p) (p + 1 + 1)=true:=by unfold isE;rw [show p + 1 + 1=p + 2 from rfl,sm3_10 hp];simp
   have b3:isE (sm3 A p) (p + 1)=false:=by unfold isE;rw [sm3_x hp];simp
   rw [b1,if_pos rfl] at a1
   rw [b2,if_pos rfl] at a2
   rw [b3,if_neg (by decide)] at a3
   have c1:=sm2_mid (enc:=enc) hp
   have c2:=sm3_mid (enc:=enc) hp
   have c3:=sm_same (enc:=enc) hp p (Nat.le_refl _)
   show bAt enc (sm3 A p) (p + 1 + 1 + 1)=bAt enc (sm2 A p) (p + 1 + 1) + 1
   omega
 | succ i ih =>
   intro hi
   have a1:=bAt_succ enc (sm2 A p) (p + 2 + i) (by omega)
   have a2:=bAt_succ enc (sm3 A p) (p + 3 + i) (by omega)
   have e:∀ j,(sm2 A p)[p + 2 + j]?=(sm3 A p)[p + 3 + j]?:=fun j=>by
    unfold sm2 sm3
    rw [spl_at A _ p hp,spl_at A _ p hp,if_neg (by omega),if_neg (by simp),if_neg (by omega),if_neg (by simp)]
    congr 1
    simp
    omega
   have e1:isE (sm2 A p) (p + 2 + i)=isE (sm3 A p) (p + 3 + i):=by
    unfold isE
    rw [e i,show p + 2 + i + 1=p + 2 + (i + 1) by omega,e (i + 1),show p + 3 + (i + 1)=p + 3 + i + 1 by omega]
   have:=ih (by omega)
   rw [show p + 3 + (i + 1)=p + 3 + i + 1 by omega,show p + 2 + (i + 1)=p + 2 + i + 1 by omega,a1,a2,e1,this]
   omega
theorem sm_more:(spn enc (sm3 A p)).b=(spn enc (sm2 A p)).b + 1:=by
 have l2:(sm2 A p).length=A.length + 2:=by unfold sm2;rw [spl_len A _ p hp];rfl
 have l3:(sm3 A p).length=A.length + 3:=by unfold sm3;rw [spl_len A _ p hp];rfl
 have:=sm_rest (enc:=enc) hp (A.length - p) (by omega)
 rw [bAt_len enc (sm3 A p) _ (by omega),bAt_len enc (sm2 A p) _ (by omega)] at this
 exact this
theorem sm2_line:lnE enc (sm2 A p) (bAt enc (sm2 A p) p)=0∧∃ f,lnA enc (sm2 A p) (bAt enc (sm2 A p) p)=⟨f,(p:Nat),((p + 2:Nat):Int),2⟩:=by
 obtain ⟨h1,h2,h3,h4⟩:=ln_crlf (enc:=enc) (sm2_13 hp) (sm2_10 hp)
 have h5:=bAt_nn enc (sm2 A p) p
 have hn:¬ (bAt enc (sm2 A p) p < 0∨(spn enc (sm2 A p)).b < bAt enc (sm2 A p) p):=by omega
 refine ⟨by unfold lnE;rw [if_neg hn],_,by unfold lnA;rw [if_neg hn,h4]⟩
end
theorem fits_120 {enc:Int} (he:Cx.En enc):Cx.fits enc 120=true:=by rcases he with rfl | rfl | rfl | rfl <;> decide
end Go.Proofs.YtjomfbegghgbdaaGreat.P
