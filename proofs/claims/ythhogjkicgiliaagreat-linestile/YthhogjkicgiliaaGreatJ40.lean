import Derived.Test.YthhogjkicgiliaaGreatJ00
import Derived.Test.YthhogjkicgiliaaGreatJ38
import Derived.Test.YthhogjkicgiliaaGreatJ39
namespace Go.Proofs.YthhogjkicgiliaaGreat.P
open Go.RowKit
def spk (b:Int):List Int:=if b=1 then [10] else if b=2 then [13,10] else if b=3 then [13] else []
def atK (enc:Int) (A:List Int) (i:Nat):Nat:=if (i:Int)≤(spn enc A).b then (skA enc A i).toNat else A.length
section
variable {enc:Int} {A:List Int} {i:Nat}
theorem lnA_inT (h0:(i:Int)≤(spn enc A).b):lnA enc A i=lnK enc A i∧lnE enc A i=0:=by
 unfold lnA lnE
 rw [if_neg (by omega),if_neg (by omega)]
 exact ⟨rfl,rfl⟩
theorem isE_iff {p:Nat}:isE A p=true ↔ (A[p]?=some 10∨(A[p]?=some 13∧A[p + 1]?≠some 10)):=by unfold isE;rw [decide_eq_true_eq]
theorem atK_zero:atK enc A 0=0:=by
 unfold atK
 rw [if_pos (show ((0:Nat):Int)≤_ from spn_nn enc A)]
 show (skA enc A 0).toNat=0
 rw [skA_zero]
 rfl
theorem atK_in (h:(i:Int)≤(spn enc A).b):skA enc A i=(atK enc A i:Nat)∧atK enc A i≤A.length:=by
 have:=skA_in enc A i (by omega) h
 unfold atK
 rw [if_pos h]
 omega
theorem bAt_line (h:(i:Int)≤(spn enc A).b) {k:Nat} (h1:atK enc A i≤k) (h2:k < atK enc A (i + 1)):bAt enc A k=i:=by
 obtain ⟨e1,e2⟩:=atK_in h
 have hge:(i:Int)≤bAt enc A k:=by
  rcases Nat.eq_zero_or_pos i with rfl | hp
  ·exact bAt_nn enc A k
  ·have:=(lt_skA enc A i (by omega) h k).2
   rcases Int.lt_or_le (bAt enc A k) i with h3 | h3
   ·have:=this h3;omega
   ·exact h3
 by_cases hi:(i:Int) < (spn enc A).b
 ·have h3:((i + 1:Nat):Int)≤(spn enc A).b:=by omega
  obtain ⟨e3,e4⟩:=atK_in h3
  have:=(lt_skA enc A ((i + 1:Nat):Int) (by omega) h3 k).1 (by omega)
  omega
 ·have:=bAt_le enc A k
  omega
theorem no_end (h:(i:Int)≤(spn enc A).b) {k:Nat} (h1:atK enc A i≤k) (h2:k + 1 < atK enc A (i + 1)) (hl:k < A.length):isE A k=false:=by
 have e1:=bAt_line h h1 (by omega)
 have e2:=bAt_line h (show atK enc A i≤k + 1 by omega) h2
 rw [bAt_succ enc A k hl,e1] at e2
 cases hE:isE A k with
 | false=>rfl
 | true=>rw [hE] at e2;simp at e2;omega
theorem line_end (h:(i:Int) < (spn enc A).b):atK enc A i < atK enc A (i + 1)∧atK enc A (i + 1)≤A.length∧isE A (atK enc A (i + 1) - 1)=true∧lnK enc A i=⟨(atK enc A i:Nat),(atK enc A (i + 1):Nat) - wid (knd A (atK enc A (i + 1))),(atK enc A (i + 1):Nat),knd A (atK enc A (i + 1))⟩:=by
 have h3:((i + 1:Nat):Int)≤(spn enc A).b:=by omega
 obtain ⟨e1,e2⟩:=atK_in (enc:=enc) (A:=A) (i:=i) (by omega)
 obtain ⟨e3,e4⟩:=atK_in h3
 obtain ⟨p,e,p1,p2,p3,p4⟩:=skA_at enc A ((i + 1:Nat):Int) (by omega) h3
 have hp:atK enc A (i + 1)=p:=by omega
 rw [hp] at e3 e4 ⊢
 have hlt:atK enc A i < p:=by
  rcases Nat.eq_zero_or_pos i with rfl | hpos
  ·rw [atK_zero];omega
  ·rcases Nat.lt_or_ge (atK enc A i) p with h5 | h5
   ·exact h5
   ·obtain ⟨r,f,r1,r2,r3,r4⟩:=skA_at enc A (i:Int) (by omega) (by omega)
    have:=bAt_mono enc A p r (by omega)
    omega
 refine ⟨hlt,e4,?_,?_⟩
 ·have:=bAt_succ enc A (p - 1) (by omega)
  rw [show p - 1 + 1=p by omega] at this
  cases hE:isE A (p - 1) with
  | true=>rfl
  | false=>rw [hE] at this;simp at this;omega
 ·unfold lnK
  rw [if_neg (by omega),e1,show ((i:Int) + 1)=((i + 1:Nat):Int) by omega,e3]
  rfl
theorem take_two {t:Nat} {x y:Int} (h1:A[t]?=some x) (h2:A[t + 1]?=some y):(A.drop t).take 2=[x,y]:=by
 obtain ⟨l1,e1⟩:=List.getElem?_eq_some_iff.1 h1
 obtain ⟨l2,e2⟩:=List.getElem?_eq_some_iff.1 h2
 rw [List.drop_eq_getElem_cons l1,List.drop_eq_getElem_cons l2,e1,e2]
 rfl
theorem take_one {t:Nat} {x:Int} (h1:A[t]?=some x):(A.drop t).take 1=[x]:=by
 obtain ⟨l1,e1⟩:=List.getElem?_eq_some_iff.1 h1
 rw [List.drop_eq_getElem_cons l1,e1]
 rfl
structure Tile (enc:Int) (A:List Int) (i f t n:Nat) (b:Int):Prop where
 at_:lnA enc A i=⟨(f:Nat),(t:Nat),(n:Nat),b⟩
 er:lnE enc A i=0
 f0:f=atK enc A i
 n0:n=atK enc A (i + 1)
 ft:f≤t
 tn:t≤n
 nl:n≤A.length
 b0:0≤b
 b3:b≤3
 no:∀ k,f≤k→k < t→A[k]?≠some 10∧A[k]?≠some 13
 sp:(A.drop t).take (n - t)=spk b
 la:b=0→(i:Int) + 1=cnt enc A∧(f=t→A.length=0)
 cr:b=3→A[n]?≠some 10
 of:∀ k:Nat,f≤k→k < n→brk enc A (k:Nat)=i
theorem tile_mid (h:(i:Int) < (spn enc A).b):∃ f t n b,Tile enc A i f t n b∧1≤b:=by
 obtain ⟨h1,h2,h3,h4⟩:=line_end h
 obtain ⟨k1,k2⟩:=lnA_inT (enc:=enc) (A:=A) (i:=i) (by omega)
 have hof:∀ k:Nat,atK enc A i≤k→k < atK enc A (i + 1)→brk enc A (k:Nat)=i:=fun k a b=>by
  rw [brk_at,Int.toNat_natCast]
  exact bAt_line (by omega) a b
 have hno:∀ k,atK enc A i≤k→k + 1 < atK enc A (i + 1)→A[k]?≠some 10∧(A[k]?=some 13→A[k + 1]?=some 10∧k + 2=atK enc A (i + 1)):=fun k a b=>by
  have e:=no_end (show (i:Int)≤(spn enc A).b by omega) a b (by omega)
  refine ⟨fun h=>?_,fun h=>?_⟩
  ·rw [isE_iff.2 (.inl h)] at e;cases e
  ·by_cases h10:A[k + 1]?=some 10
   ·refine ⟨h10,?_⟩
    rcases Nat.lt_or_ge (k + 2) (atK enc A (i + 1)) with h5 | h5
    ·have e2:=no_end (show (i:Int)≤(spn enc A).b by omega) (show atK enc A i≤k + 1 by omega) h5 (by omega)
     rw [isE_iff.2 (.inl h10)] at e2;cases e2
    ·omega
   ·rw [isE_iff.2 (.inr ⟨h,h10⟩)] at e;cases e
 generalize hn:atK enc A (i + 1)=n at *
 generalize hf:atK enc A i=f at *
 rw [← k1] at h4
 rcases isE_iff.1 h3 with h10 | ⟨h13,hx⟩
 ·have hk3:¬ A[n - 1]?=some 13:=by rw [h10];simp
  by_cases hc:2≤n∧A[n - 2]?=some 13
  ·have kd:knd A n=2:=by unfold knd;rw [if_neg hk3,if_pos hc]
   rw [kd] at h4
   have hfn:f≤n - 2:=by
    rcases Nat.lt_or_ge (n - 2) f with h5 | h5
    ·have hfe:f=n - 1:=by omega
     rcases Nat.eq_zero_or_pos i with rfl | hp
     ·rw [atK_zero] at hf;omega
     ·obtain ⟨j,rfl⟩:∃ j,i=j + 1:=⟨i - 1,by omega⟩
      obtain ⟨_,_,g3,_⟩:=line_end (enc:=enc) (A:=A) (i:=j) (by omega)
      rw [hf,hfe] at g3
      rcases isE_iff.1 g3 with g | ⟨_,g⟩
      ·rw [show n - 1 - 1=n - 2 by omega,hc.2] at g;simp at g
      ·exact absurd (by rw [show n - 1 - 1 + 1=n - 1 by omega];exact h10) g
    ·exact h5
   refine ⟨f,n - 2,n,2,⟨?_,k2,hf.symm,hn.symm,hfn,by omega,h2,by decide,by decide,fun k a b=>?_,?_,fun e=>absurd e (by decide),fun e=>absurd e (by decide),hof⟩,by decide⟩
   ·rw [h4]
    unfold wid
    rw [if_pos rfl]
    congr 1
    omega
   ·obtain ⟨q1,q2⟩:=hno k a (by omega)
    exact ⟨q1,fun h=>by have:=(q2 h).2;omega⟩
   ·rw [show n - (n - 2)=2 by omega,take_two hc.2 (by rw [show n - 2 + 1=n - 1 by omega];exact h10)]
    rfl
  ·have kd:knd A n=1:=by unfold knd;rw [if_neg hk3,if_neg hc]
   rw [kd] at h4
   refine ⟨f,n - 1,n,1,⟨?_,k2,hf.symm,hn.symm,by omega,by omega,h2,by decide,by decide,fun k a b=>?_,?_,fun e=>absurd e (by decide),fun e=>absurd e (by decide),hof⟩,by decide⟩
   ·rw [h4]
    unfold wid
    rw [if_neg (by decide)]
    congr 1
    omega
   ·obtain ⟨q1,q2⟩:=hno k a (by omega)
    exact ⟨q1,fun h=>hc ⟨by omega,by rw [show n - 2=k by have:=(q2 h).2;omega];exact h⟩⟩
   ·rw [show n - (n - 1)=1 by omega,take_one h10]
    rfl
 ·have kd:knd A n=3:=by unfold knd;rw [if_pos h13]
  rw [kd] at h4
  refine ⟨f,n - 1,n,3,⟨?_,k2,hf.symm,hn.symm,by omega,by omega,h2,by decide,by decide,fun k a b=>?_,?_,fun e=>absurd e (by decide),fun _=>by rw [show n - 1 + 1=n by omega] at hx;exact hx,hof⟩,by decide⟩
  ·rw [h4]
   unfold wid
   rw [if_neg (by decide)]
   congr 1
   omega
  ·obtain ⟨q1,q2⟩:=hno k a (by omega)
   exact ⟨q1,fun h=>by
    obtain ⟨g1,g2⟩:=q2 h
    rw [show k + 1=n - 1 by omega,h13] at g1
    simp at g1⟩
  ·rw [show n - (n - 1)=1 by omega,take_one h13]
   rfl
theorem tile_last (h:(i:Int)=(spn enc A).b) (hc:(i:Int) < cnt enc A):Tile enc A i (atK enc A i) A.length A.length 0:=by
 obtain ⟨k1,k2⟩:=lnA_inT (enc:=enc) (A:=A) (i:=i) (by omega)
 obtain ⟨e1,e2⟩:=atK_in (enc:=enc) (A:=A) (i:=i) (by omega)
 have en:atK enc A (i + 1)=A.length:=by unfold atK;rw [if_neg (by omega)]
 have hct:=cnt_tail enc A
 refine ⟨?_,k2,rfl,en.symm,e2,Nat.le_refl _,Nat.le_refl _,by decide,by decide,fun k a b=>?_,?_,fun _=>⟨?_,fun e=>?_⟩,fun e=>absurd e (by decide),fun k a b=>?_⟩
 ·rw [k1]
  unfold lnK
  rw [if_pos h,e1]
 ·have hE:isE A k=false:=by
   have b1:=bAt_line (show (i:Int)≤(spn enc A).b by omega) a (by omega)
   have b2:=bAt_succ enc A k b
   have b3:=bAt_le enc A (k + 1)
   cases hE:isE A k with
   | false=>rfl
   | true=>rw [hE] at b2;simp at b2;omega
  refine ⟨fun h=>?_,fun h=>?_⟩
  ·rw [isE_iff.2 (.inl h)] at hE;cases hE
  ·by_cases h10:A[k + 1]?=some 10
   ·have hl:=(List.getElem?_eq_some_iff.1 h10).1
    have b1:=bAt_line (show (i:Int)≤(spn enc A).b by omega) (show atK enc A i≤k + 1 by omega) (by omega)
    have b2:=bAt_succ enc A (k + 1) hl
    have b3:=bAt_le enc A (k + 1 + 1)
    rw [isE_iff.2 (.inl h10)] at b2
    simp at b2
    omega
   ·rw [isE_iff.2 (.inr ⟨h,h10⟩)] at hE;cases hE
 ·rw [Nat.sub_self,List.take_zero]
  rfl
 ·rw [hct]
  rw [hct] at hc
  split at hc
  ·omega
  ·rename_i hq
   rw [if_neg hq]
   omega
 ·rw [hct] at hc
  split at hc
  ·omega
  ·rename_i hq
   rcases Nat.eq_zero_or_pos i with rfl | hp
   ·rw [atK_zero] at e;omega
   ·exact absurd ⟨by omega,by rw [← h,e1,e]⟩ hq
 ·rw [brk_at,Int.toNat_natCast]
  exact bAt_line (by omega) a (by omega)
theorem tile_any (hc:(i:Int) < cnt enc A):∃ f t n b,Tile enc A i f t n b:=by
 have hct:=cnt_tail enc A
 by_cases h:(i:Int) < (spn enc A).b
 ·obtain ⟨f,t,n,b,h,_⟩:=tile_mid h
  exact ⟨f,t,n,b,h⟩
 ·exact ⟨_,_,_,_,tile_last (by rw [hct] at hc;split at hc <;> omega) hc⟩
theorem atK_end (hc:(i:Int)=cnt enc A):atK enc A i=A.length:=by
 have hct:=cnt_tail enc A
 unfold atK
 rw [hct] at hc
 split at hc
 ·rename_i hq
  rw [if_pos (by omega),hc,hq.2]
  omega
 ·rw [if_neg (by omega)]
end
end Go.Proofs.YthhogjkicgiliaaGreat.P

namespace Go.Proofs.YthhogjkicgiliaaGreat.P
open Go.RowKit
theorem cells3x {w:World} {b:Nat} {T:TypeId} {v0 v1 v2:Value} (h:w.heap[b]?=some (.cells #[v0,v1,v2] T (0,0))):b < w.heap.size∧w.cell? ⟨b,0,none⟩=some v0∧w.cell? ⟨b,1,none⟩=some v1∧w.cell? ⟨b,2,none⟩=some v2∧(∀ i,w.frozen? ⟨b,i,none⟩=false):=by
 refine ⟨(Array.getElem?_eq_some_iff.1 h).1,?_,?_,?_,fun i=>by simp [World.frozen?,h]⟩ <;> (rw [cell_of_row _ _ _ _ _ _ h];rfl)
theorem ownI_ge {w:World} {base:Nat} {v:Value} {zs:List Int} (h:OwnI w base v zs) {g:Nat} (hg:v.ownBlock=some g):base≤g:=by
 rcases h.2 with ⟨rfl,_⟩ | ⟨g',cap,cur,rfl,h0,hc,_⟩
 ·cases hg
 ·cases hg
  exact h0
structure Rdr (enc:Int) (A:List Int) (w:World) (r t s:Nat) (H:Nat→Prop):Prop where
 ex:∃ v hand,w.heap[r]?=some (.cells #[.pointer (some ⟨t,0,none⟩),.int .i64 (s:Nat),v] 127 (0,0))∧OwnI w 0 v hand∧hand=(A.drop s).take hand.length∧∀ g,v.ownBlock=some g→H g
 tz:Tz enc w t A
theorem Rdr.typ {enc:Int} {A:List Int} {w:World} {r t s:Nat} {H:Nat→Prop} (h:Rdr enc A w r t s H):Typ 127 w r:=by obtain ⟨_,_,h1,_⟩:=h.ex;exact ⟨_,h1⟩
theorem Rdr.ext {enc:Int} {A:List Int} {w w':World} {r t s:Nat} {H:Nat→Prop} (h:Rdr enc A w r t s H) (hb:Below w.heap.size w w'):Rdr enc A w' r t s H:=by
 obtain ⟨v,hand,h1,h2,h3⟩:=h.ex
 exact ⟨⟨v,hand,(hb.block r (Array.getElem?_eq_some_iff.1 h1).1).trans h1,h2.ext hb,h3⟩,h.tz.ext hb⟩
theorem sub_512 (A:List Int) (p:Nat):sub A p ((p:Int) + 512)=(A.drop p).take 512:=by
 unfold sub clp
 by_cases h:p < A.length
 ·rw [if_neg (by omega)]
  simp only
  rw [show (max (p:Int) 0).toNat=p by omega,show (min ((p:Int) + 512) (A.length:Int)).toNat - p=min 512 (A.length - p) by omega]
  rw [← List.length_drop,List.take_eq_take_min (i:=512)]
 ·rw [if_pos (by omega),List.drop_eq_nil_of_le (show A.length≤p by omega)]
  simp
def aV (A:List Int) (p:Nat):Int:=(A[p]?).getD 0
def aB (A:List Int) (p:Nat):Bool:=(A[p]?).isSome
set_option maxRecDepth 100000 in
set_option maxHeartbeats 8000000 in
theorem atom_any (enc:Int) (A:List Int) (w:World) (r t s p:Nat) {H:Nat→Prop} (hH:∀ k,w.heap.size≤k→H k) (h:Rdr enc A w r t s H) (hs:s≤p) (hp:p≤1000000):Calls Tryz.prog 99 #[.pointer (some ⟨r,0,none⟩),.int .i64 (p:Nat)] w fun e w'=>e=.returned (.tuple #[.int .i64 (aV A p),.bool (aB A p)])∧Hid (∃ s',s'≤p∧Rdr enc A w' r t s' H)∧Kps (fun k=>k=r) w w':=by
 obtain ⟨v,hand,hg,ho,hh,_⟩:=h.ex
 have HHH:=hidIt hH
 clear hH
 obtain ⟨ah,ch,hv⟩:=ho.form
 have hlh:hand.length≤A.length:=by rw [hh,List.length_take,List.length_drop];omega
 have hlA:=h.tz.len
 obtain ⟨n,hn⟩:∃ n,n=hand.length:=⟨_,rfl⟩
 rw [← hn] at hv
 subst hv
 have HG:=hidIt hg
 have HO:=hidIt ho
 have HH:=hidIt hh
 have HT:=hidIt h
 have HN:=hidIt hn
 obtain ⟨_,c0,c1,c2,fz⟩:=cells3x hg
 have hrt:r≠t:=fun e=>by subst e;exact absurd (Typ.uniq h.typ h.tz.typ) (by decide)
 have hn9:n≤65536:=by omega
 have hwn:IntKind.i64.wrap ((s:Int) + (n:Int))=((s + n:Nat):Int):=by rw [IntKind.wrap_i64];omega
 clear hg ho hh h hlh hn
 by_cases hin:p < s + n
 ·have h3:=congrArg (fun l=>l[p - s]?) HH.out
  simp only [List.getElem?_take,List.getElem?_drop] at h3
  rw [if_pos (show p - s < hand.length by rw [← HN.out];omega),show s + (p - s)=p by omega] at h3
  obtain ⟨x,hxh⟩:∃ x,hand[p - s]?=some x:=⟨_,List.getElem?_eq_getElem (by rw [← HN.out];omega)⟩
  have hx:A[p]?=some x:=by rw [← h3];exact hxh
  have HR:=hidIt (show aV A p=x∧aB A p=true from ⟨by unfold aV;rw [hx];rfl,by unfold aB;rw [hx];rfl⟩)
  obtain ⟨b,o,hbo,hbl,cx,_⟩:=rd_at HO.out.rdi (p - s) (List.getElem?_eq_some_iff.1 hxh).1
  rw [hxh,Option.getD_some] at cx
  subst hbo
  have hlt:¬ (((s + n:Nat):Int)≤(p:Int)):=by omega
  have hlt':¬ (s + n≤p):=by omega
  have hnz:¬ ((n:Int)=0):=by omega
  have hnz':¬ (n=0):=by omega
  have hnb:((n:Int) == 0)=false:=by simp;omega
  have hws:IntKind.i64.wrap ((p:Int) - (s:Int))=((p - s:Nat):Int):=by rw [IntKind.wrap_i64];omega
  have hps:p - s < n:=by omega
  clear hx hxh hin h3
  go_enter Tryz.func99,Tryz.ntmps99
  go_upto_region 1 with fail
  refine wp_region_held_drew (S:=fun w''=>w''.cell? ⟨r,1,none⟩=some (.int .i64 (s:Nat))∧w''.cell? ⟨r,2,none⟩=some (.slice (some ⟨b,o,none⟩) n ch)∧w''.cell? ⟨b,o + (p - s),none⟩=some (.int .i64 x)) (by kernel_rfl) (⟨c1,c2,cx⟩) (fun hHeld=>?_)
  refine tkH (v:=?_) 0 rfl ?_ ?_;rotate_left 1
  ·intro wq hSw;(try dsimp only at hSw);go_simp;try (with_reducible rfl)
  try simp only [Act.put,sA1,sA3,sA4,sA5,sA6]
  refine tkH (v:=?_) 1 rfl ?_ ?_;rotate_left 1
  ·intro wq hSw;(try dsimp only at hSw);go_simp;try (with_reducible rfl)
  try simp only [Act.put,sA1,sA2,sA3,sA4,sA5,sA6]
  refine tkH (v:=?_) 2 rfl ?_ ?_;rotate_left 1
  ·intro wq hSw;(try dsimp only at hSw);go_simp;try (with_reducible rfl)
  try simp only [Act.put,sA1,sA2,sA3,sA4,sA5,sA6]
  refine tkH (v:=?_) 3 rfl ?_ ?_;rotate_left 1
  ·intro wq hSw;(try dsimp only at hSw);go_simp;try (with_reducible rfl)
  try simp only [Act.put,sA1,sA2,sA3,sA4,sA5,sA6]
  refine tkH (v:=?_) 4 rfl ?_ ?_;rotate_left 1
  ·intro wq hSw;(try dsimp only at hSw);go_simp;try (with_reducible rfl)
  try simp only [Act.put,sA1,sA2,sA3,sA4,sA5,sA6]
  refine tkH (v:=?_) 5 rfl ?_ ?_;rotate_left 1
  ·intro wq hSw;(try dsimp only at hSw);go_simp;try (with_reducible rfl)
  try simp only [Act.put,sA1,sA2,sA3,sA4,sA5,sA6]
  refine tkH (v:=?_) 6 rfl ?_ ?_;rotate_left 1
  ·intro wq hSw;(try dsimp only at hSw);go_simp;try (with_reducible rfl)
  try simp only [Act.put,sA1,sA2,sA3,sA4,sA5,sA6]
  refine tkH (v:=?_) 7 rfl ?_ ?_;rotate_left 1
  ·intro wq hSw;(try dsimp only at hSw);go_simp;try (with_reducible rfl)
  try simp only [Act.put,sA1,sA2,sA3,sA4,sA5,sA6]
  refine tkH (v:=?_) 8 rfl ?_ ?_;rotate_left 1
  ·intro wq hSw;(try dsimp only at hSw);go_simp;try (with_reducible rfl)
  try simp only [Act.put,sA1,sA2,sA3,sA4,sA5,sA6]
  refine tkH (v:=?_) 9 rfl ?_ ?_;rotate_left 1
  ·intro wq hSw;(try dsimp only at hSw);go_simp;try (with_reducible rfl)
  try simp only [Act.put,sA1,sA2,sA3,sA4,sA5,sA6]
  refine tkH (v:=?_) 10 rfl ?_ ?_;rotate_left 1
  ·intro wq hSw;(try dsimp only at hSw);go_simp;try (with_reducible rfl)
  try simp only [Act.put,sA1,sA2,sA3,sA4,sA5,sA6]
  refine tkH (v:=?_) 11 rfl ?_ ?_;rotate_left 1
  ·intro wq hSw;(try dsimp only at hSw);go_simp;try (with_reducible rfl)
  try simp only [Act.put,sA1,sA2,sA3,sA4,sA5,sA6]
  refine wpAnyH_done (by kernel_rfl) ?_ _
  clear c1 c2 cx
  obtain ⟨c1,c2,cx⟩:=hHeld
  go_upto_region 5 with fail
  refine wp_region_held_drew (S:=fun w''=>w''.cell? ⟨r,1,none⟩=some (.int .i64 (s:Nat))∧w''.cell? ⟨r,2,none⟩=some (.slice (some ⟨b,o,none⟩) n ch)∧w''.cell? ⟨b,o + (p - s),none⟩=some (.int .i64 x)) (by kernel_rfl) (⟨c1,c2,cx⟩) (fun hHeld=>?_)
  refine tkH (v:=?_) 0 rfl ?_ ?_;rotate_left 1
  ·intro wq hSw;(try dsimp only at hSw);go_simp;try (with_reducible rfl)
  try simp only [Act.put,sA1,sA3,sA4,sA5,sA6]
  refine tkH (v:=?_) 1 rfl ?_ ?_;rotate_left 1
  ·intro wq hSw;(try dsimp only at hSw);go_simp;try (with_reducible rfl)
  try simp only [Act.put,sA1,sA2,sA3,sA4,sA5,sA6]
  refine tkH (v:=?_) 2 rfl ?_ ?_;rotate_left 1
  ·intro wq hSw;(try dsimp only at hSw);go_simp;try (with_reducible rfl)
  try simp only [Act.put,sA1,sA2,sA3,sA4,sA5,sA6]
  refine tkH (v:=?_) 3 rfl ?_ ?_;rotate_left 1
  ·intro wq hSw;(try dsimp only at hSw);go_simp;try (with_reducible rfl)
  try simp only [Act.put,sA1,sA2,sA3,sA4,sA5,sA6]
  refine tkH (v:=?_) 4 rfl ?_ ?_;rotate_left 1
  ·intro wq hSw;(try dsimp only at hSw);go_simp;try (with_reducible rfl)
  try simp only [Act.put,sA1,sA2,sA3,sA4,sA5,sA6]
  refine tkH (v:=?_) 5 rfl ?_ ?_;rotate_left 1
  ·intro wq hSw;(try dsimp only at hSw);go_simp;try (with_reducible rfl)
  try simp only [Act.put,sA1,sA2,sA3,sA4,sA5,sA6]
  refine tkH (v:=?_) 6 rfl ?_ ?_;rotate_left 1
  ·intro wq hSw;(try dsimp only at hSw);go_simp;try (with_reducible rfl)
  try simp only [Act.put,sA1,sA2,sA3,sA4,sA5,sA6]
  refine tkH (v:=?_) 7 rfl ?_ ?_;rotate_left 1
  ·intro wq hSw;(try dsimp only at hSw);go_simp;try (with_reducible rfl)
  try simp only [Act.put,sA1,sA2,sA3,sA4,sA5,sA6]
  refine tkH (v:=?_) 8 rfl ?_ ?_;rotate_left 1
  ·intro wq hSw;(try dsimp only at hSw);go_simp;try (with_reducible rfl)
  try simp only [Act.put,sA1,sA2,sA3,sA4,sA5,sA6]
  refine tkH (v:=?_) 9 rfl ?_ ?_;rotate_left 1
  ·intro wq hSw;(try dsimp only at hSw);go_simp;try (with_reducible rfl)
  try simp only [Act.put,sA1,sA2,sA3,sA4,sA5,sA6]
  refine tkH (v:=?_) 10 rfl ?_ ?_;rotate_left 1
  ·intro wq hSw;(try dsimp only at hSw);go_simp;try (with_reducible rfl)
  try simp only [Act.put,sA1,sA2,sA3,sA4,sA5,sA6]
  refine tkH (v:=?_) 11 rfl ?_ ?_;rotate_left 1
  ·intro wq hSw;(try dsimp only at hSw);go_simp;try (with_reducible rfl)
  try simp only [Act.put,sA1,sA2,sA3,sA4,sA5,sA6]
  refine tkH (v:=?_) 12 rfl ?_ ?_;rotate_left 1
  ·intro wq hSw;(try dsimp only at hSw);go_simp;try (with_reducible rfl)
  try simp only [Act.put,sA1,sA2,sA3,sA4,sA5,sA6]
  refine tkH (v:=?_) 13 rfl ?_ ?_;rotate_left 1
  ·intro wq hSw;(try dsimp only at hSw);go_simp;try (with_reducible rfl)
  try simp only [Act.put,sA1,sA2,sA3,sA4,sA5,sA6]
  refine wpAnyH_done (by kernel_rfl) ?_ _
  go_wp2_with fail
  go_ret2
  exact ⟨by rw [HR.out.1,HR.out.2];rfl,⟨s,hs,by first | exact HT.out | exact HT.out.ext (Below.refl _ _).drew | exact HT.out.ext ((Below.refl _ _).drew).drew⟩,by first | exact Kps.refl _ _ | exact Kps.of_below _ (Below.refl _ _).drew | exact Kps.of_below _ ((Below.refl _ _).drew).drew⟩
 ·have hge:((s + n:Nat):Int)≤(p:Int):=by omega
  have hge':s + n≤p:=by omega
  have hw5:IntKind.i64.wrap ((p:Int) + 512)=(p:Int) + 512:=by rw [IntKind.wrap_i64];omega
  have AT:Hid (∀ w',Below w.heap.size w w'→Calls Tryz.prog 22 #[.pointer (some ⟨t,0,none⟩),.int .i64 (p:Nat),.int .i64 ((p:Int) + 512)] w' fun e w''=>AtR ((A.drop p).take 512) w' e w''):=fun w' hb=>by
   have:=Atoms_z enc w' t A (p:Nat) ((p:Int) + 512) (HT.out.tz.ext hb)
   rwa [sub_512] at this
  go_enter Tryz.func99,Tryz.ntmps99
  go_upto_region 1 with fail
  refine wp_region_held_drew (S:=fun w''=>w''.cell? ⟨r,0,none⟩=some (.pointer (some ⟨t,0,none⟩))∧w''.cell? ⟨r,1,none⟩=some (.int .i64 (s:Nat))∧w''.cell? ⟨r,2,none⟩=some (.slice ah n ch)) (by kernel_rfl) (⟨c0,c1,c2⟩) (fun hHeld=>?_)
  refine tkH (v:=?_) 0 rfl ?_ ?_;rotate_left 1
  ·intro wq hSw;(try dsimp only at hSw);go_simp;try (with_reducible rfl)
  try simp only [Act.put,sA1,sA3,sA4,sA5,sA6]
  refine tkH (v:=?_) 1 rfl ?_ ?_;rotate_left 1
  ·intro wq hSw;(try dsimp only at hSw);go_simp;try (with_reducible rfl)
  try simp only [Act.put,sA1,sA2,sA3,sA4,sA5,sA6]
  refine tkH (v:=?_) 2 rfl ?_ ?_;rotate_left 1
  ·intro wq hSw;(try dsimp only at hSw);go_simp;try (with_reducible rfl)
  try simp only [Act.put,sA1,sA2,sA3,sA4,sA5,sA6]
  refine tkH (v:=?_) 3 rfl ?_ ?_;rotate_left 1
  ·intro wq hSw;(try dsimp only at hSw);go_simp;try (with_reducible rfl)
  try simp only [Act.put,sA1,sA2,sA3,sA4,sA5,sA6]
  refine tkH (v:=?_) 4 rfl ?_ ?_;rotate_left 1
  ·intro wq hSw;(try dsimp only at hSw);go_simp;try (with_reducible rfl)
  try simp only [Act.put,sA1,sA2,sA3,sA4,sA5,sA6]
  refine tkH (v:=?_) 5 rfl ?_ ?_;rotate_left 1
  ·intro wq hSw;(try dsimp only at hSw);go_simp;try (with_reducible rfl)
  try simp only [Act.put,sA1,sA2,sA3,sA4,sA5,sA6]
  refine tkH (v:=?_) 6 rfl ?_ ?_;rotate_left 1
  ·intro wq hSw;(try dsimp only at hSw);go_simp;try (with_reducible rfl)
  try simp only [Act.put,sA1,sA2,sA3,sA4,sA5,sA6]
  refine tkH (v:=?_) 7 rfl ?_ ?_;rotate_left 1
  ·intro wq hSw;(try dsimp only at hSw);go_simp;try (with_reducible rfl)
  try simp only [Act.put,sA1,sA2,sA3,sA4,sA5,sA6]
  refine tkH (v:=?_) 8 rfl ?_ ?_;rotate_left 1
  ·intro wq hSw;(try dsimp only at hSw);go_simp;try (with_reducible rfl)
  try simp only [Act.put,sA1,sA2,sA3,sA4,sA5,sA6]
  refine tkH (v:=?_) 9 rfl ?_ ?_;rotate_left 1
  ·intro wq hSw;(try dsimp only at hSw);go_simp;try (with_reducible rfl)
  try simp only [Act.put,sA1,sA2,sA3,sA4,sA5,sA6]
  refine tkH (v:=?_) 10 rfl ?_ ?_;rotate_left 1
  ·intro wq hSw;(try dsimp only at hSw);go_simp;try (with_reducible rfl)
  try simp only [Act.put,sA1,sA2,sA3,sA4,sA5,sA6]
  refine tkH (v:=?_) 11 rfl ?_ ?_;rotate_left 1
  ·intro wq hSw;(try dsimp only at hSw);go_simp;try (with_reducible rfl)
  try simp only [Act.put,sA1,sA2,sA3,sA4,sA5,sA6]
  refine wpAnyH_done (by kernel_rfl) ?_ _
  clear c0 c1 c2
  obtain ⟨c0,c1,c2⟩:=hHeld
  have hHeld:=c0
  go_upto_region 3 with (go_at_call 22;refine (AT.out _ (Below.drew (Below.refl _ _))).mono ?_;rintro e w2 ⟨v2,rfl,ho2,hb⟩;have HB2:=hidIt (ext_trans (Below.drew (Below.refl w.heap.size w)) hb);obtain ⟨a2,k2,hv2⟩:=ho2.form;generalize hn2:((A.drop p).take 512).length=n2 at hv2;have HN2:=hidIt hn2;clear hn2;subst hv2;have HO2:=hidIt ho2;clear ho2 hb c0 c1 c2 fz hHeld;have HG2:=hidIt ((HB2.out.block r (Array.getElem?_eq_some_iff.1 HG.out).1).trans HG.out);obtain ⟨_,c0,c1,c2,fz⟩:=cells3x HG2.out;(try dsimp only))
  generalize hwF:World.setCell (World.setCell w2 _ _) _ _=wF
  have HF:Hid (wF.heap[r]?=some (.cells #[.pointer (some ⟨t,0,none⟩),.int .i64 (p:Nat),.slice a2 n2 k2] 127 (0,0))∧Kps (fun k=>k=r) w2 wF):=by
   unfold Hid
   rw [← hwF]
   obtain ⟨h1,g1⟩:=set1 HG2.out 1 (.int .i64 (p:Nat))
   obtain ⟨h2,g2⟩:=set1 h1 2 (.slice a2 n2 k2)
   exact ⟨h2,Kps.grown (grown_trans g1 g2) fun j e _=>by cases e;rfl⟩
  have HTY:Hid (Typ 127 w2 r):=⟨_,HG2.out⟩
  have HOF:Hid (OwnI wF 0 (.slice a2 n2 k2) ((A.drop p).take 512)):=((HO2.out.le (Nat.zero_le _)).oth HF.out.2 HTY.out (by decide))
  have HRF:Hid (Rdr enc A wF r t p H):=⟨⟨_,_,HF.out.1,HOF.out,by rw [List.length_take,List.take_eq_take_min],fun g hg=>HHH.out g (ownI_ge HO2.out hg)⟩,(HT.out.tz.ext HB2.out).other HF.out.2 HTY.out (by decide) (by decide) hrt⟩
  have HKF:Hid (Kps (fun k=>k=r) w wF):=(Kps.of_below _ HB2.out).trans HF.out.2 (fun _ _ e=>e)
  obtain ⟨_,f0,f1,f2,_⟩:=cells3x HF.out.1
  clear hwF c0 c1 c2 fz
  cases hx:A[p]? with
  | none =>
    have hn0:n2=0:=by rw [← HN2.out,List.length_take,List.length_drop];have:=List.getElem?_eq_none_iff.1 hx;omega
    have HR:=hidIt (show aV A p=0∧aB A p=false from ⟨by unfold aV;rw [hx];rfl,by unfold aB;rw [hx];rfl⟩)
    subst hn0
    clear hx
    go_wp2_with fail
    go_ret2
    exact ⟨by rw [HR.out.1,HR.out.2];rfl,⟨p,Nat.le_refl _,HRF.out⟩,HKF.out⟩
  | some x =>
    have hpl:=(List.getElem?_eq_some_iff.1 hx).1
    have hn0:0 < n2:=by rw [← HN2.out,List.length_take,List.length_drop];omega
    have hh:((A.drop p).take 512)[0]?=some x:=by rw [List.getElem?_take,if_pos (by omega),List.getElem?_drop,Nat.add_zero];exact hx
    have HR:=hidIt (show aV A p=x∧aB A p=true from ⟨by unfold aV;rw [hx];rfl,by unfold aB;rw [hx];rfl⟩)
    obtain ⟨b,o,hbo,hbl,cx,_⟩:=rd_at HOF.out.rdi 0 (List.getElem?_eq_some_iff.1 hh).1
    rw [hh,Option.getD_some,Nat.add_zero] at cx
    subst hbo
    have hnz:¬ ((n2:Int)=0):=by omega
    have hnz':¬ (n2=0):=by omega
    have hnb:((n2:Int) == 0)=false:=by simp;omega
    have hws:IntKind.i64.wrap 0=0:=by rw [IntKind.wrap_i64];omega
    clear hx hh
    go_upto_region 5 with fail
    refine wp_region_held_drew (S:=fun w''=>w''.cell? ⟨r,1,none⟩=some (.int .i64 (p:Nat))∧w''.cell? ⟨r,2,none⟩=some (.slice (some ⟨b,o,none⟩) n2 k2)∧w''.cell? ⟨b,o,none⟩=some (.int .i64 x)) (by kernel_rfl) (⟨f1,f2,cx⟩) (fun hHeld=>?_)
    refine tkH (v:=?_) 0 rfl ?_ ?_;rotate_left 1
    ·intro wq hSw;(try dsimp only at hSw);go_simp;try (with_reducible rfl)
    try simp only [Act.put,sA1,sA3,sA4,sA5,sA6]
    refine tkH (v:=?_) 1 rfl ?_ ?_;rotate_left 1
    ·intro wq hSw;(try dsimp only at hSw);go_simp;try (with_reducible rfl)
    try simp only [Act.put,sA1,sA2,sA3,sA4,sA5,sA6]
    refine tkH (v:=?_) 2 rfl ?_ ?_;rotate_left 1
    ·intro wq hSw;(try dsimp only at hSw);go_simp;try (with_reducible rfl)
    try simp only [Act.put,sA1,sA2,sA3,sA4,sA5,sA6]
    refine tkH (v:=?_) 3 rfl ?_ ?_;rotate_left 1
    ·intro wq hSw;(try dsimp only at hSw);go_simp;try (with_reducible rfl)
    try simp only [Act.put,sA1,sA2,sA3,sA4,sA5,sA6]
    refine tkH (v:=?_) 4 rfl ?_ ?_;rotate_left 1
    ·intro wq hSw;(try dsimp only at hSw);go_simp;try (with_reducible rfl)
    try simp only [Act.put,sA1,sA2,sA3,sA4,sA5,sA6]
    refine tkH (v:=?_) 5 rfl ?_ ?_;rotate_left 1
    ·intro wq hSw;(try dsimp only at hSw);go_simp;try (with_reducible rfl)
    try simp only [Act.put,sA1,sA2,sA3,sA4,sA5,sA6]
    refine tkH (v:=?_) 6 rfl ?_ ?_;rotate_left 1
    ·intro wq hSw;(try dsimp only at hSw);go_simp;try (with_reducible rfl)
    try simp only [Act.put,sA1,sA2,sA3,sA4,sA5,sA6]
    refine tkH (v:=?_) 7 rfl ?_ ?_;rotate_left 1
    ·intro wq hSw;(try dsimp only at hSw);go_simp;try (with_reducible rfl)
    try simp only [Act.put,sA1,sA2,sA3,sA4,sA5,sA6]
    refine tkH (v:=?_) 8 rfl ?_ ?_;rotate_left 1
    ·intro wq hSw;(try dsimp only at hSw);go_simp;try (with_reducible rfl)
    try simp only [Act.put,sA1,sA2,sA3,sA4,sA5,sA6]
    refine tkH (v:=?_) 9 rfl ?_ ?_;rotate_left 1
    ·intro wq hSw;(try dsimp only at hSw);go_simp;try (with_reducible rfl)
    try simp only [Act.put,sA1,sA2,sA3,sA4,sA5,sA6]
    refine tkH (v:=?_) 10 rfl ?_ ?_;rotate_left 1
    ·intro wq hSw;(try dsimp only at hSw);go_simp;try (with_reducible rfl)
    try simp only [Act.put,sA1,sA2,sA3,sA4,sA5,sA6]
    refine tkH (v:=?_) 11 rfl ?_ ?_;rotate_left 1
    ·intro wq hSw;(try dsimp only at hSw);go_simp;try (with_reducible rfl)
    try simp only [Act.put,sA1,sA2,sA3,sA4,sA5,sA6]
    refine tkH (v:=?_) 12 rfl ?_ ?_;rotate_left 1
    ·intro wq hSw;(try dsimp only at hSw);go_simp;try (with_reducible rfl)
    try simp only [Act.put,sA1,sA2,sA3,sA4,sA5,sA6]
    refine tkH (v:=?_) 13 rfl ?_ ?_;rotate_left 1
    ·intro wq hSw;(try dsimp only at hSw);go_simp;try (with_reducible rfl)
    try simp only [Act.put,sA1,sA2,sA3,sA4,sA5,sA6]
    refine wpAnyH_done (by kernel_rfl) ?_ _
    go_wp2_with fail
    go_ret2
    exact ⟨by rw [HR.out.1,HR.out.2];rfl,⟨p,Nat.le_refl _,HRF.out.ext (Below.refl _ _).drew⟩,HKF.out.trans (Kps.of_below (fun _=>False) (Below.refl _ _).drew) (fun _ _ e=>e.elim)⟩
end Go.Proofs.YthhogjkicgiliaaGreat.P
