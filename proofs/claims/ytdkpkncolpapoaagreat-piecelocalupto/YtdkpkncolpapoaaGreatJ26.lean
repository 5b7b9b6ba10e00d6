import Derived.Test.YtdkpkncolpapoaaGreatJ00
import Derived.Test.YtdkpkncolpapoaaGreatJ25
import Derived.Test.YtdkpkncolpapoaaGreatJ19
import Derived.Deep.RegionHeld3
namespace Go.Proofs.YtdkpkncolpapoaaGreat.P
open Go.RowKit
def mrk (m r:Nat):List Int:=(List.range r).map fun k=>771 + ((m + k:Nat):Int)
theorem mrk_len (m r:Nat):(mrk m r).length=r:=by simp [mrk]
theorem mrk_succ (m r:Nat):mrk m (r + 1)=mrk m r ++ [771 + ((m + r:Nat):Int)]:=by simp [mrk,List.range_succ]
structure HE where
 e:Ed
 b:Nat
 pv:Value
def HE.row (r:Nat) (h:HE):List Int:=h.e.2.2 ++ mrk h.e.2.2.length r
def HE.sl (r:Nat) (h:HE):Value:=.slice (some ⟨h.b,0,none⟩) (h.e.2.2.length + r) (h.e.2.2.length + r)
def HE.cs (h:HE):List Value:=[.int .i64 h.e.1,.int .i64 h.e.2.1,h.pv]
def mkE (n r:Nat):List Value:=(List.range r).flatMap fun k=>[.int .i64 (-771 - ((n + k:Nat):Int)),.int .i64 (-772),.slice none 0 0]
theorem fm3 {α:Type} (a b c:α→Value) (l:List α) (i:Nat) (x:α) (hi:l[i]?=some x):(l.flatMap fun x=>[a x,b x,c x])[i * 3]?=some (a x)∧(l.flatMap fun x=>[a x,b x,c x])[i * 3 + 1]?=some (b x)∧(l.flatMap fun x=>[a x,b x,c x])[i * 3 + 2]?=some (c x):=by
 induction l generalizing i with
 | nil=>simp at hi
 | cons y ys ih =>
   cases i with
   | zero =>
     simp only [List.getElem?_cons_zero,Option.some.injEq] at hi
     subst hi
     simp [List.flatMap_cons]
   | succ i =>
     rw [List.getElem?_cons_succ] at hi
     obtain ⟨h1,h2,h3⟩:=ih i hi
     rw [List.flatMap_cons,show (i + 1) * 3=i * 3 + 1 + 1 + 1 by omega]
     simp only [List.cons_append,List.nil_append,List.getElem?_cons_succ]
     exact ⟨h1,h2,h3⟩
theorem fm3_len {α:Type} (a b c:α→Value) (l:List α):(l.flatMap fun x=>[a x,b x,c x]).length=l.length * 3:=by
 induction l with
 | nil=>rfl
 | cons y ys ih=>rw [List.flatMap_cons,List.length_append,ih];simp;omega
theorem cs_len (hs:List HE):(hs.flatMap HE.cs).length=hs.length * 3:=fm3_len (fun h:HE=>Value.int .i64 h.e.1) (fun h:HE=>Value.int .i64 h.e.2.1) (fun h:HE=>h.pv) hs
theorem cs_at (hs:List HE) (i:Nat) (h:HE) (hi:hs[i]?=some h):(hs.flatMap HE.cs)[i * 3]?=some (.int .i64 h.e.1)∧(hs.flatMap HE.cs)[i * 3 + 1]?=some (.int .i64 h.e.2.1)∧(hs.flatMap HE.cs)[i * 3 + 2]?=some h.pv:=fm3 (fun h:HE=>Value.int .i64 h.e.1) (fun h:HE=>Value.int .i64 h.e.2.1) (fun h:HE=>h.pv) hs i h hi
theorem mkE_at (n r k:Nat) (h:k < r):(mkE n r)[k * 3]?=some (.int .i64 (-771 - ((n + k:Nat):Int)))∧(mkE n r)[k * 3 + 1]?=some (.int .i64 (-772))∧(mkE n r)[k * 3 + 2]?=some (.slice none 0 0) :=
 fm3 (fun k:Nat=>Value.int .i64 (-771 - ((n + k:Nat):Int))) (fun _=>.int .i64 (-772)) (fun _=>.slice none 0 0) (List.range r) k k (List.getElem?_range h)
theorem mkE_succ (n r:Nat):mkE n (r + 1)=mkE n r ++ [.int .i64 (-771 - ((n + r:Nat):Int)),.int .i64 (-772),.slice none 0 0]:=by simp [mkE,List.range_succ]
theorem take_put3 (zz:List Value) (m:Nat) (a b c:Value) (h:m * 3 + 2 < zz.length):(((zz.set (m * 3) a).set (m * 3 + 1) b).set (m * 3 + 2) c).take ((m + 1) * 3)=zz.take (m * 3) ++ [a,b,c]:=by
 refine List.ext_getElem? fun i=>?_
 rw [List.getElem?_take]
 by_cases h1:i < m * 3
 ·rw [if_pos (by omega),List.getElem?_append_left (by simp;omega),List.getElem?_take,if_pos h1,List.getElem?_set_ne (by omega),List.getElem?_set_ne (by omega),List.getElem?_set_ne (by omega)]
 ·rw [List.getElem?_append_right (by simp;omega),List.length_take,Nat.min_eq_left (by omega)]
  by_cases h2:i=m * 3
  ·subst h2
   rw [if_pos (by omega),List.getElem?_set_ne (by omega),List.getElem?_set_ne (by omega),List.getElem?_set_self (by omega)]
   simp
  ·by_cases h3:i=m * 3 + 1
   ·subst h3
    rw [if_pos (by omega),List.getElem?_set_ne (by omega),List.getElem?_set_self (by rw [List.length_set];omega),show m * 3 + 1 - m * 3=1 by omega]
    rfl
   ·by_cases h4:i=m * 3 + 2
    ·subst h4
     rw [if_pos (by omega),List.getElem?_set_self (by rw [List.length_set,List.length_set];omega),show m * 3 + 2 - m * 3=2 by omega]
     rfl
    ·rw [if_neg (by omega),List.getElem?_eq_none (by simp;omega)]
theorem take_put1 {α:Type} (zz:List α) (m:Nat) (a:α) (h:m < zz.length):(zz.set m a).take (m + 1)=zz.take m ++ [a]:=by
 rw [List.take_add_one,List.getElem?_set_self h,List.take_set_of_le (Nat.le_refl _)]
 rfl
def RoI (w:World) (b:Nat) (zs:List Int):Prop:=w.heap[b]?=some (.cells (zs.map (Value.int .i64)).toArray 3 (0,0))
theorem RoI.rd {w:World} {b:Nat} {zs:List Int} (h:RoI w b zs) (n c:Nat) (hn:n≤zs.length) (h1:n≤c) (h2:c≤9223372036854775807):Rd .i64 w (.slice (some ⟨b,0,none⟩) n c) (zs.take n):=by
 have el:(zs.take n).length=n:=by rw [List.length_take];omega
 refine ⟨_,c,by rw [el],by rw [el];exact h1,by unfold maxLen;exact h2,fun _=>⟨b,0,rfl,(Array.getElem?_eq_some_iff.1 h).1,fun i hi=>?_⟩⟩
 rw [el] at hi
 rw [cell_of_row w b _ _ _ _ h,Nat.zero_add,List.getElem?_toArray,List.getElem?_map,List.getElem?_take,if_pos hi,List.getElem?_eq_getElem (by omega)]
 rfl
structure HEok (w:World) (base r:Nat) (h:HE):Prop where
 ge:base≤h.b
 row:RoI w h.b (h.row r)
 pv:(h.pv=.slice none 0 0∧h.e.2.2=[])∨h.pv=.slice (some ⟨h.b,0,none⟩) h.e.2.2.length (h.e.2.2.length + r)
 ln:h.e.2.2.length + r≤9223372036854775807
theorem HEok.same {w w':World} {base r:Nat} {h:HE} (k:HEok w base r h) (hb:∀ b,Typ 3 w b→w'.heap[b]?=w.heap[b]?):HEok w' base r h:=⟨k.ge,by unfold RoI;rw [hb h.b ⟨_,k.row⟩];exact k.row,k.pv,k.ln⟩
theorem HEok.rd {w:World} {base r:Nat} {h:HE} (k:HEok w base r h):Rd .i64 w h.pv h.e.2.2:=by
 rcases k.pv with ⟨h1,h2⟩ | h1
 ·rw [h1,h2]
  exact ⟨none,0,rfl,Nat.le_refl _,by simp [maxLen],fun e=>absurd rfl e⟩
 ·rw [h1]
  have:=k.row.rd h.e.2.2.length (h.e.2.2.length + r) (by simp [HE.row]) (by omega) k.ln
  rwa [show (h.row r).take h.e.2.2.length=h.e.2.2 by simp [HE.row]] at this
theorem ownsRow_same {w w':World} {base:Nat} {T:TypeId} {size:Nat} {v:Value} {n:Nat} {xs:List Value} (h:w.ownsRow base T size v n xs) (hb:∀ b,Typ T w b→w'.heap[b]?=w.heap[b]?):w'.ownsRow base T size v n xs:=by
 refine ⟨h.1,?_⟩
 rcases h.2 with h2 | ⟨g,cap,cur,hv,h3,hg,r⟩
 ·exact .inl h2
 ·exact .inr ⟨g,cap,cur,hv,h3,(hb g ⟨_,hg⟩).trans hg,r⟩
structure Hd (w:World) (base r g n:Nat) (vp:Value) (hs:List HE) (xs:List Value):Prop where
 each:∀ h ∈ hs,HEok w base r h
 puts:w.ownsRow base 22 1 vp hs.length (hs.map (HE.sl r))
 all:w.ownsRow base 30 3 (.slice (some ⟨g,0,none⟩) n n) n xs
 pre:xs.take (hs.length * 3)=hs.flatMap HE.cs
theorem Hd.same {w w':World} {base r g n:Nat} {vp:Value} {hs:List HE} {xs:List Value} (h:Hd w base r g n vp hs xs) (h1:∀ b,Typ 3 w b→w'.heap[b]?=w.heap[b]?) (h2:∀ b,Typ 22 w b→w'.heap[b]?=w.heap[b]?) (h3:∀ b,Typ 30 w b→w'.heap[b]?=w.heap[b]?):Hd w' base r g n vp hs xs :=
 ⟨fun x hx=>(h.each x hx).same h1,ownsRow_same h.puts h2,ownsRow_same h.all h3,h.pre⟩
theorem Hd.ext {w w':World} {base r g n:Nat} {vp:Value} {hs:List HE} {xs:List Value} (h:Hd w base r g n vp hs xs) (hb:Below w.heap.size w w'):Hd w' base r g n vp hs xs :=
 h.same (fun b hb'=>hb.block b hb'.lt) (fun b hb'=>hb.block b hb'.lt) (fun b hb'=>hb.block b hb'.lt)
theorem Hd.edr {w:World} {base r g n:Nat} {vp:Value} {hs:List HE} {xs:List Value} (h:Hd w base r g n vp hs xs) (hl:hs.length≤n) (hn:n≤9223372036854775807):EdR w (.slice (some ⟨g,0,none⟩) hs.length n) (hs.map HE.e):=by
 refine ⟨_,n,by rw [List.length_map],by rw [List.length_map];exact hl,hn,fun _=>⟨g,0,rfl,(h.all.lt g rfl).2,fun i e he=>?_⟩⟩
 rw [List.getElem?_map,Option.map_eq_some_iff] at he
 obtain ⟨x,hx,rfl⟩:=he
 have hi:=(List.getElem?_eq_some_iff.1 hx).1
 obtain ⟨c0,c1,c2⟩:=cs_at hs i x hx
 rw [← h.pre,List.getElem?_take,if_pos (by omega)] at c0 c1 c2
 rw [Nat.zero_add]
 exact ⟨(h.all.cellAt _ (by omega)).trans c0,(h.all.cellAt _ (by omega)).trans c1,x.pv,(h.all.cellAt _ (by omega)).trans c2,(h.each x (List.mem_of_getElem? hx)).rd⟩
end Go.Proofs.YtdkpkncolpapoaaGreat.P

namespace Go.Proofs.YtdkpkncolpapoaaGreat.P
open Go.RowKit
theorem Tryz.info_edit:(Tryz.prog.info? 30).map (fun i=>(i.zero,i.size,i.bytes))=some (some (.agg #[.int .i64 0,.int .i64 0,.slice none 0 0]),3,40):=by kernel_rfl
set_option maxRecDepth 100000 in
theorem penEdits_nil (n:Nat) (w:World) (hn:n * 40≤281474976710656):Calls Tryz.prog 110 #[.pointer none,.int .i64 (n:Nat)] w fun e w'=>e=.returned (.slice (some ⟨w.heap.size,0,none⟩) n n)∧(∃ xs,w'.ownsRow w.heap.size 30 3 (.slice (some ⟨w.heap.size,0,none⟩) n n) n xs)∧Below w.heap.size w w':=by
 obtain ⟨i0,hi,hz0,hz1,hz2⟩:=info_parts Tryz.info_edit
 go_enter Tryz.func110,Tryz.ntmps110
 go_wp2_with (refine wpList_make_full w rfl _ _ 31 rfl w.heap.size 30 i0 (.agg #[.int .i64 0,.int .i64 0,.slice none 0 0]) 3 Tryz.underlying31 hi hz0 hz1 .i64 .i64 _ _ n rfl rfl rfl rfl (by rw [hz2];omega) (by unfold maxLen;omega) (Nat.le_refl _) ?_;intro w1 hO hg;have HO:=hidIt hO;have HG:=hidIt hg;clear hO hg)
 go_ret
 exact ⟨rfl,⟨_,HO.out⟩,Below.grown (Below.refl w.heap.size w) HG.out (Nat.le_refl _) (fun k e=>by cases e)⟩
set_option maxRecDepth 100000 in
theorem penPut_nil (i:Int) (n:Nat) (w:World) (hn:n * 8≤281474976710656):Calls Tryz.prog 111 #[.pointer none,.int .i64 i,.int .i64 (n:Nat)] w fun e w'=>e=.returned (.slice (some ⟨w.heap.size,0,none⟩) n n)∧RoI w' w.heap.size (List.replicate n 0)∧Below w.heap.size w w':=by
 obtain ⟨i0,hi,hz0,hz1,hz2⟩:=info_parts Tryz.info_i64
 go_enter Tryz.func111,Tryz.ntmps111
 go_wp2_with (refine wpList_make_full w rfl _ _ 22 rfl w.heap.size 3 i0 (.int .i64 0) 1 Tryz.underlying22 hi hz0 hz1 .i64 .i64 _ _ n rfl rfl rfl rfl (by rw [hz2];omega) (by unfold maxLen;omega) (Nat.le_refl _) ?_;intro w1 hO hg;have HO:=hidIt hO;have HG:=hidIt hg;clear hO hg)
 go_ret
 refine ⟨rfl,?_,Below.grown (Below.refl w.heap.size w) HG.out (Nat.le_refl _) (fun k e=>by cases e)⟩
 obtain ⟨e1,hh⟩:=HO.out
 rcases hh with ⟨hv,_⟩ | ⟨g,cp,cur,hv,_,hcur,hcp1,hcp2,hcs,htk⟩
 ·cases hv
 simp only [Value.slice.injEq,Option.some.injEq,Addr.mk.injEq] at hv
 obtain ⟨⟨hg0,_,_⟩,_,hcp⟩:=hv
 subst hg0
 subst hcp
 unfold RoI
 rw [hcur]
 have e2:cur.toList=(List.replicate n (0:Int)).map (Value.int .i64):=by
  rw [List.take_of_length_le (by rw [Array.length_toList,hcs];exact Nat.le_refl _)] at htk
  rw [htk,List.map_replicate]
  have:=toList_madeCells_one (.int .i64 0) (n * 1)
  rw [Nat.mul_one] at this ⊢
  exact this
 rw [← e2]
set_option maxRecDepth 100000 in
theorem hEdits_any (r g n:Nat) (ap:Option Addr) (lp cp:Nat) (w:World) (hr:r≤n) (hn:n≤9223372036854775807) (h0:0 < n):Calls Tryz.prog 81 #[.agg #[.int .i64 (r:Nat),.slice (some ⟨g,0,none⟩) n n,.slice ap lp cp]] w fun e w'=>e=.returned (.slice (some ⟨g,0,none⟩) (n - r) n)∧Below w.heap.size w w':=by
 obtain ⟨w0,hw0,k2,hb0⟩:∃ w0,w0=w.alloc (.cells #[.int .i64 (r:Nat),.slice (some ⟨g,0,none⟩) n n,.slice ap lp cp] 157)∧w0.heap[w.heap.size]?=some (.cells #[.int .i64 (r:Nat),.slice (some ⟨g,0,none⟩) n n,.slice ap lp cp] 157 (0,0))∧Below w.heap.size w w0:=⟨_,rfl,heap_alloc_new _ _,ext_alloc (Below.refl _ _) _⟩
 have c0:w0.cell? ⟨w.heap.size,0,none⟩=some (.int .i64 (r:Nat)):=by rw [cell_of_row w0 _ _ _ _ _ k2];rfl
 have c1:w0.cell? ⟨w.heap.size,1,none⟩=some (.slice (some ⟨g,0,none⟩) n n):=by rw [cell_of_row w0 _ _ _ _ _ k2];rfl
 have hz:¬ n=0:=by omega
 have hz':¬ 0=n:=by omega
 have hrn:(0:Int)≤(n:Int) - (r:Int):=by omega
 have hrn2:(n:Int) - (r:Int)≤(n:Int):=by omega
 have hE:((n:Int) - (r:Int)).toNat=n - r:=by omega
 have HB0:=hidIt hb0
 clear k2 hb0
 go_enter Tryz.func81,Tryz.ntmps81
 go_upto_region 1 with fail
 rw [← hw0]
 clear hw0
 go_wp2_with fail
 go_ret
 exact ⟨rfl,HB0.out⟩
end Go.Proofs.YtdkpkncolpapoaaGreat.P

namespace Go.Proofs.YtdkpkncolpapoaaGreat.P
open Go.RowKit
theorem EdR.at {w:World} {ao:Option Addr} {n cap:Nat} {es:List Ed} (h:EdR w (.slice ao n cap) es) (j:Nat) (e:Ed) (he:es[j]?=some e):∃ b off pa pc,ao=some ⟨b,off,none⟩∧b < w.heap.size∧w.cell? ⟨b,off + j * 3,none⟩=some (.int .i64 e.1)∧w.cell? ⟨b,off + j * 3 + 1,none⟩=some (.int .i64 e.2.1)∧w.cell? ⟨b,off + j * 3 + 2,none⟩=some (.slice pa e.2.2.length pc)∧Rd .i64 w (.slice pa e.2.2.length pc) e.2.2:=by
 obtain ⟨ao',cap',e1,_,_,e4⟩:=h
 simp only [Value.slice.injEq] at e1
 obtain ⟨rfl,_,_⟩:=e1
 obtain ⟨b,o,k1,k2,k3⟩:=e4 (by intro hn;subst hn;simp at he)
 obtain ⟨c0,c1,pv,c2,c3⟩:=k3 j e he
 obtain ⟨pa,pc,rfl,_⟩:=id c3
 exact ⟨b,o,pa,pc,k1,k2,c0,c1,c2,c3⟩
set_option maxRecDepth 100000 in
set_option maxHeartbeats 4000000 in
theorem sameEdits_any (v1 v2:Value) (es:List Ed) (w:World) (h1:EdR w v1 es) (h2:EdR w v2 es):Calls Tryz.prog 112 #[v1,v2] w fun e w'=>e=.returned (.bool true)∧Below w.heap.size w w':=by
 obtain ⟨ao,cap,rfl,hc1,hc2,_⟩:=id h1
 obtain ⟨ao2,cap2,rfl,hd1,hd2,_⟩:=id h2
 have HR1:=hidIt h1
 have HR2:=hidIt h2
 have hq:((es.length:Int) != (es.length:Int))=false:=by simp
 clear h1 h2
 go_enter Tryz.func112,Tryz.ntmps112
 go_wp2_with fail
 go_loopg [5] es.length (fun gk p wr=>∃ i:Nat,i + gk=es.length∧p=.int .i64 (i:Nat)∧Hid (Below w.heap.size w wr))
 case atStart=>exact ⟨0,by omega,rfl,Below.refl _ _⟩
 case round =>
  obtain ⟨i,hi,rfl,HB⟩:=hrel
  by_cases hil:i < es.length
  ·have hil2:(i:Int) < (es.length:Int):=by omega
   obtain ⟨e,hej⟩:∃ e,es[i]?=some e:=⟨_,List.getElem?_eq_getElem hil⟩
   obtain ⟨b,o,pa,pc,rfl,_,_⟩:=HR1.out.at i e hej
   obtain ⟨b2,o2,pa2,pc2,rfl,_,_⟩:=HR2.out.at i e hej
   have hbA:=(HR1.out.at i e hej)
   have hbB:=(HR2.out.at i e hej)
   obtain ⟨_,_,pa,pc,e1,hbl,k0,k1,k2,hrd⟩:=hbA
   cases e1
   obtain ⟨_,_,pa2,pc2,e2,hbl2,m0,m1,m2,hrd2⟩:=hbB
   cases e2
   obtain ⟨ef,et,ep⟩:=e
   simp only at *
   have HCD:Hid (∀ w',Below w.heap.size w w'→(w'.cell? ⟨b,o + i * 3,none⟩=some (.int .i64 ef)∧w'.cell? ⟨b,o + i * 3 + 1,none⟩=some (.int .i64 et)∧w'.cell? ⟨b,o + i * 3 + 2,none⟩=some (.slice pa ep.length pc))∧w'.cell? ⟨b2,o2 + i * 3,none⟩=some (.int .i64 ef)∧w'.cell? ⟨b2,o2 + i * 3 + 1,none⟩=some (.int .i64 et)∧w'.cell? ⟨b2,o2 + i * 3 + 2,none⟩=some (.slice pa2 ep.length pc2)):=fun w' hb=>⟨⟨(hb.cell (p:=⟨b,o + i * 3,none⟩) hbl).trans k0,(hb.cell (p:=⟨b,o + i * 3 + 1,none⟩) hbl).trans k1,(hb.cell (p:=⟨b,o + i * 3 + 2,none⟩) hbl).trans k2⟩,(hb.cell (p:=⟨b2,o2 + i * 3,none⟩) hbl2).trans m0,(hb.cell (p:=⟨b2,o2 + i * 3 + 1,none⟩) hbl2).trans m1,(hb.cell (p:=⟨b2,o2 + i * 3 + 2,none⟩) hbl2).trans m2⟩
   have SI:Hid (∀ w',Below w.heap.size w w'→Calls Tryz.prog 22 #[.slice pa ep.length pc,.slice pa2 ep.length pc2] w' fun e w''=>e=.returned (.bool true)∧Below w'.heap.size w' w''):=fun w' hb=>sameInts_any _ _ ep w' (hrd.ext hb) (hrd2.ext hb)
   clear k0 k1 k2 m0 m1 m2 hrd hrd2 hbl hbl2 hej
   obtain ⟨⟨c0,c1,c2⟩,d0,d1,d2⟩:=HCD.out wr HB.out
   go_upto_region 6 with fail
   go_cut [54] from 17 to 53 (fun v wF=>v=.bool false∧Hid (Below w.heap.size w wF))
   case first =>
    go_region_held3 (fun w'=>(w'.cell? ⟨b,o + i * 3,none⟩=some (.int .i64 ef)∧w'.cell? ⟨b,o + i * 3 + 1,none⟩=some (.int .i64 et)∧w'.cell? ⟨b,o + i * 3 + 2,none⟩=some (.slice pa ep.length pc))∧w'.cell? ⟨b2,o2 + i * 3,none⟩=some (.int .i64 ef)∧w'.cell? ⟨b2,o2 + i * 3 + 1,none⟩=some (.int .i64 et)∧w'.cell? ⟨b2,o2 + i * 3 + 2,none⟩=some (.slice pa2 ep.length pc2)) (first | exact HCD.out _ (by repeat (first | exact HB.out | exact HB3.out | apply Below.drew)) | go_keep) (first | (go_at_call 22;refine (SI.out _ (by repeat (first | exact HB.out | apply Below.drew))).mono ?_;clear c0 c1 c2 d0 d1 d2;rintro e w3 ⟨rfl,hb3⟩;have HB3:Hid (Below w.heap.size w w3):=ext_trans (by repeat (first | exact HB.out | apply Below.drew)) hb3;obtain ⟨⟨c0,c1,c2⟩,d0,d1,d2⟩:=HCD.out w3 HB3.out;clear hb3;(try dsimp only)))
    all_goals go_wp2_with fail
    all_goals go_meet
    case rel=>exact ⟨rfl,by repeat (first | exact HB3.out | apply Below.drew)⟩
   obtain ⟨rfl,HBc⟩:=hcut
   clear c0 c1 c2 d0 d1 d2
   go_wp2_with fail
   go_roundg (es.length - (i + 1))
   case rel=>exact ⟨i + 1,by omega,by go_num,HBc.out⟩
   case measure=>omega
  ·have hil2:¬ (i:Int) < (es.length:Int):=by omega
   go_wp2_with fail
   go_ret
   exact ⟨rfl,HB.out⟩
theorem mk_cells (hs:List HE) (n r k:Nat) (hn:hs.length=n) (hk:k < r):(hs.flatMap HE.cs ++ mkE n r)[(n + k) * 3]?=some (.int .i64 (-771 - ((n + k:Nat):Int)))∧(hs.flatMap HE.cs ++ mkE n r)[(n + k) * 3 + 1]?=some (.int .i64 (-772))∧(hs.flatMap HE.cs ++ mkE n r)[(n + k) * 3 + 2]?=some (.slice none 0 0):=by
 have hc:=cs_len hs
 obtain ⟨h1,h2,h3⟩:=mkE_at n r k hk
 refine ⟨?_,?_,?_⟩
 ·rw [List.getElem?_append_right (by omega),hc,hn,show (n + k) * 3 - n * 3=k * 3 by omega];exact h1
 ·rw [List.getElem?_append_right (by omega),hc,hn,show (n + k) * 3 + 1 - n * 3=k * 3 + 1 by omega];exact h2
 ·rw [List.getElem?_append_right (by omega),hc,hn,show (n + k) * 3 + 2 - n * 3=k * 3 + 2 by omega];exact h3
set_option maxRecDepth 100000 in
set_option maxHeartbeats 8000000 in
theorem whole_any (base r g:Nat) (ap:Option Addr) (cp:Nat) (hs:List HE) (es:List Ed) (lv:Value) (w:World) (h:Hd w base r g (es.length + r) (.slice ap es.length cp) hs (hs.flatMap HE.cs ++ mkE es.length r)) (hes:hs.map HE.e=es) (hE:EdR w lv es) (hr:2≤r∧r≤100) (hn:es.length≤17592186044416) (hm:∀ e ∈ es,e.2.2.length≤17592186044416) :
  Calls Tryz.prog 82 #[.agg #[.int .i64 (r:Nat),.slice (some ⟨g,0,none⟩) (es.length + r) (es.length + r),.slice ap es.length cp],lv] w fun e w'=>e=.returned (.bool true)∧Below w.heap.size w w':=by
 have hln:hs.length=es.length:=by rw [← hes,List.length_map]
 obtain ⟨N,hN⟩:∃ N,N=es.length + r:=⟨_,rfl⟩
 rw [← hN] at h ⊢
 obtain ⟨ao,cap,rfl,hc1,hc2,_⟩:=id hE
 obtain ⟨w0,hw0,k2,hb0⟩:∃ w0,w0=w.alloc (.cells #[.int .i64 (r:Nat),.slice (some ⟨g,0,none⟩) N N,.slice ap es.length cp] 157)∧w0.heap[w.heap.size]?=some (.cells #[.int .i64 (r:Nat),.slice (some ⟨g,0,none⟩) N N,.slice ap es.length cp] 157 (0,0))∧Below w.heap.size w w0:=⟨_,rfl,heap_alloc_new _ _,ext_alloc (Below.refl _ _) _⟩
 have HC:Hid (∀ w',Below w0.heap.size w0 w'→w'.cell? ⟨w.heap.size,0,none⟩=some (.int .i64 (r:Nat))∧w'.cell? ⟨w.heap.size,1,none⟩=some (.slice (some ⟨g,0,none⟩) N N)∧w'.cell? ⟨w.heap.size,2,none⟩=some (.slice ap es.length cp)):=fun w' hb=>by
  have e:=(hb.block _ (Array.getElem?_eq_some_iff.1 k2).1).trans k2
  refine ⟨?_,?_,?_⟩ <;> (rw [cell_of_row w' _ _ _ _ _ e];rfl)
 have HD:Hid (∀ w',Below w0.heap.size w0 w'→Hd w' base r g N (.slice ap es.length cp) hs (hs.flatMap HE.cs ++ mkE es.length r)∧EdR w' (.slice ao es.length cap) es):=fun w' hb=>⟨h.ext (ext_trans hb0 hb),hE.ext (ext_trans hb0 hb)⟩
 have HN:=hidIt hN
 have HLN:=hidIt hln
 have HES:=hidIt hes
 have HMM:=hidIt hm
 have HB0:=hidIt hb0
 have hNb:N≤17592186044616:=by omega
 have hr2:2≤r:=hr.1
 have hr1:r≤100:=hr.2
 have hNr:(es.length:Int) + (r:Int)=(N:Int):=by omega
 have hq:((N:Int) != (N:Int))=false:=by simp
 clear h hE k2 hb0 hN hln hes hm hr
 obtain ⟨c0,c1,c2⟩:=HC.out w0 (Below.refl _ _)
 go_enter Tryz.func82,Tryz.ntmps82
 go_upto_region 1 with fail
 rw [← hw0]
 clear hw0
 go_wp2_with fail
 go_loopg [6] r (fun gk p wr=>∃ (k j:Nat),k + gk=r∧j=es.length + k∧p=.int .i64 (j:Nat)∧wr=w0)
 case atStart=>exact ⟨0,es.length,by omega,rfl,rfl,rfl⟩
 case round =>
  obtain ⟨k,j,hk,hj,rfl,hwr⟩:=hrel
  rw [hwr]
  clear hwr
  by_cases hkr:k < r
  ·have hjN:j < N:=by have:=HN.out;omega
   have hjN2:(j:Int) < (N:Int):=by omega
   have hd:=(HD.out w0 (Below.refl _ _)).1.all
   obtain ⟨m0,m1,m2⟩:=mk_cells hs es.length r k HLN.out hkr
   rw [← hj] at m0 m1 m2
   have g0:=(hd.cellAt (j * 3) (by omega)).trans m0
   have g1:=(hd.cellAt (j * 3 + 1) (by omega)).trans m1
   have g2:=(hd.cellAt (j * 3 + 2) (by omega)).trans m2
   have hjq:(-771 - (j:Int) != -771 - (j:Int))=false:=by simp
   have HJJ:=hidIt hj
   clear hd m0 m1 m2 hj
   go_wp2_with fail
   go_roundg (r - (k + 1))
   case rel=>exact ⟨k + 1,j + 1,by omega,by have:=HJJ.out;omega,by go_num,rfl⟩
   case measure=>omega
  ·have hjN2:¬ (j:Int) < (N:Int):=by have:=HN.out;omega
   clear hj hk hkr
   go_wp2_with fail
   go_loopg [7] es.length (fun gk p wr=>∃ i:Nat,i + gk=es.length∧p=.int .i64 (i:Nat)∧Hid (Below w0.heap.size w0 wr))
   case atStart=>exact ⟨0,by omega,rfl,Below.refl _ _⟩
   case round =>
    obtain ⟨i,hi,rfl,HB⟩:=hrel
    clear c0 c1 c2
    obtain ⟨c0,c1,c2⟩:=HC.out wr HB.out
    by_cases hil:i < es.length
    ·have hil2:(i:Int) < (es.length:Int):=by omega
     obtain ⟨x,hx⟩:∃ x,hs[i]?=some x:=⟨_,List.getElem?_eq_getElem (by have:=HLN.out;omega)⟩
     have hex:es[i]?=some x.e:=by rw [← HES.out,List.getElem?_map,hx];rfl
     have hlp:=HMM.out _ (List.mem_of_getElem? hex)
     obtain ⟨hd0,hE0⟩:=HD.out w0 (Below.refl _ _)
     obtain ⟨b,o,pa,pc,rfl,hbl,_,_,k2,hrd⟩:=hE0.at i x.e hex
     have hok:=hd0.each x (List.mem_of_getElem? hx)
     have hpu:=hd0.puts
     rw [HLN.out] at hpu
     rcases hpu.2 with ⟨_,e2⟩ | ⟨gp,cpp,cur,hv,_,hgp,hcp1,_⟩
     ·omega
     simp only [Value.slice.injEq] at hv
     obtain ⟨rfl,_,rfl⟩:=hv
     have hgl:=(Array.getElem?_eq_some_iff.1 hgp).1
     have q0:=(hpu.cellAt i (by omega)).trans (by rw [List.getElem?_map,hx];rfl:_=some (HE.sl r x))
     obtain ⟨⟨ef,et,ep⟩,bx,pv⟩:=x
     unfold HE.sl at q0
     simp only at *
     obtain ⟨M,hM⟩:∃ M,M=ep.length + r:=⟨_,rfl⟩
     rw [← hM] at q0
     have HCD:Hid (∀ w',Below w0.heap.size w0 w'→w'.cell? ⟨gp,i,none⟩=some (.slice (some ⟨bx,0,none⟩) M M)∧w'.cell? ⟨b,o + i * 3 + 2,none⟩=some (.slice pa ep.length pc)∧w'.cell? ⟨w.heap.size,0,none⟩=some (.int .i64 (r:Nat))):=fun w' hb=>⟨(hb.cell (p:=⟨gp,i,none⟩) hgl).trans q0,(hb.cell (p:=⟨b,o + i * 3 + 2,none⟩) hbl).trans k2,(HC.out w' hb).1⟩
     have HRW:Hid (∀ w',Below w0.heap.size w0 w'→RoI w' bx (ep ++ mrk ep.length r)):=fun w' hb=>by
      have:=hok.row
      unfold RoI at this ⊢
      rw [hb.block _ (Array.getElem?_eq_some_iff.1 this).1]
      exact this
     have SI:Hid (∀ w',Below w0.heap.size w0 w'→Calls Tryz.prog 22 #[.slice (some ⟨bx,0,none⟩) ep.length M,.slice pa ep.length pc] w' fun e w''=>e=.returned (.bool true)∧Below w'.heap.size w' w''):=fun w' hb=>by
      have h1:=(HRW.out w' hb).rd ep.length M (by simp) (by omega) (by omega)
      rw [List.take_left] at h1
      exact sameInts_any _ _ ep w' h1 (hrd.ext hb)
     have HM:=hidIt hM
     have hMb:M≤17592186044616:=by omega
     have hMr:ep.length≤M:=by omega
     have hMr2:(ep.length:Int)≤(M:Int):=by omega
     have hM0:¬ M=0:=by omega
     have hM0':¬ 0=M:=by omega
     have hMw:IntKind.i64.wrap ((ep.length:Int) + (r:Int))=(M:Int):=by rw [IntKind.wrap_i64];omega
     have hMq:((M:Int) != (M:Int))=false:=by simp
     clear hx hex hd0 hE0 k2 hrd hok hpu hgp q0 hgl hbl hM
     obtain ⟨e0,e1,e2⟩:=HCD.out wr HB.out
     go_upto_region 14 with fail
     go_cut [91] from 73 to 90 (fun v wF=>v=.bool false∧Hid (Below w0.heap.size w0 wF))
     case first =>
      go_region_held3 (fun w'=>w'.cell? ⟨gp,i,none⟩=some (.slice (some ⟨bx,0,none⟩) M M)∧w'.cell? ⟨b,o + i * 3 + 2,none⟩=some (.slice pa ep.length pc)∧w'.cell? ⟨w.heap.size,0,none⟩=some (.int .i64 (r:Nat))) (first | exact HCD.out _ (by repeat (first | exact HB.out | exact HB3.out | apply Below.drew)) | go_keep) (first | (go_at_call 22;refine (SI.out _ (by repeat (first | exact HB.out | apply Below.drew))).mono ?_;clear e0 e1 e2;rintro e w3 ⟨rfl,hb3⟩;have HB3:Hid (Below w0.heap.size w0 w3):=ext_trans (by repeat (first | exact HB.out | apply Below.drew)) hb3;obtain ⟨e0,e1,e2⟩:=HCD.out w3 HB3.out;clear hb3;(try dsimp only)))
      all_goals go_wp2_with fail
      all_goals go_meet
      case rel=>exact ⟨rfl,by repeat (first | exact HB3.out | apply Below.drew)⟩
     obtain ⟨rfl,HBc⟩:=hcut
     clear c0 c1 c2 e0 e1 e2
     go_wp2_with fail
     go_loopg [10] r (fun gk2 p wr2=>∃ (k j:Nat),k + gk2=r∧j=ep.length + k∧p=.int .i64 (j:Nat)∧wr2=wc)
     case atStart=>exact ⟨0,ep.length,by omega,rfl,rfl,rfl⟩
     case round =>
      obtain ⟨k,j,hk,hj,rfl,hwr⟩:=hrel
      rw [hwr]
      clear hwr
      by_cases hkr:k < r
      ·have hjM:j < M:=by have:=HM.out;omega
       have hjM2:(j:Int) < (M:Int):=by omega
       have hro:=HRW.out wc HBc.out
       have cj:wc.cell? ⟨bx,j,none⟩=some (.int .i64 (771 + (j:Int))):=by
        rw [cell_of_row wc _ _ _ _ _ hro,List.getElem?_toArray,List.getElem?_map,List.getElem?_append_right (by omega),hj,Nat.add_sub_cancel_left]
        unfold mrk
        rw [List.getElem?_map,List.getElem?_range hkr]
        rfl
       have hjq:(771 + (j:Int) != 771 + (j:Int))=false:=by simp
       have HJJ:=hidIt hj
       clear hro hj
       go_wp2_with fail
       go_roundg (r - (k + 1))
       case rel=>exact ⟨k + 1,j + 1,by omega,by have:=HJJ.out;omega,by go_num,rfl⟩
       case measure=>omega
      ·have hjM2:¬ (j:Int) < (M:Int):=by have:=HM.out;omega
       go_wp2_with fail
       go_roundg (es.length - (i + 1))
       case rel=>exact ⟨i + 1,by omega,by go_num,HBc.out⟩
       case measure=>omega
    ·have hil2:¬ (i:Int) < (es.length:Int):=by omega
     have ED:=hidIt (hEdits_any r g N ap es.length cp wr (by have:=HN.out;omega) (by omega) (by omega))
     have SE:Hid (∀ w',Below wr.heap.size wr w'→Calls Tryz.prog 112 #[.slice (some ⟨g,0,none⟩) (N - r) N,.slice ao es.length cap] w' fun e w''=>e=.returned (.bool true)∧Below w'.heap.size w' w''):=fun w' hb=>by
      obtain ⟨hd,hE⟩:=HD.out w' (ext_trans HB.out hb)
      have h1:=hd.edr (by have:=HN.out;have:=HLN.out;omega) (by omega)
      rw [HES.out,HLN.out,show es.length=N - r by have:=HN.out;omega] at h1
      exact sameEdits_any _ _ es w' h1 hE
     go_wp2_with (first
      | (go_at_call 81;refine ED.out.mono ?_;rintro e w4 ⟨rfl,hb4⟩;have HB4:=hidIt hb4;have SE4:=hidIt (SE.out w4 hb4);clear hb4 c0 c1 c2;(try dsimp only))
      | (go_at_call 112;refine SE4.out.mono ?_;rintro e w5 ⟨rfl,hb5⟩;have HB5:=hidIt (ext_trans HB4.out hb5);clear hb5;(try dsimp only)))
     go_ret
     exact ⟨rfl,ext_trans HB0.out (ext_trans HB.out HB5.out)⟩
end Go.Proofs.YtdkpkncolpapoaaGreat.P

namespace Go.Proofs.YtdkpkncolpapoaaGreat.P
open Go.RowKit
structure Spl (w:World) (base r g n:Nat) (vp:Value) (hs:List HE):Prop where
 each:∀ h ∈ hs,∃ ys,w.ownsRow base 3 1 (h.sl r) (h.e.2.2.length + r) ys
 puts:w.ownsRow base 22 1 vp hs.length (hs.map (HE.sl r))
 all:∃ xs,w.ownsRow base 30 3 (.slice (some ⟨g,0,none⟩) n n) n xs
theorem Hd.sp {w:World} {base r g n:Nat} {vp:Value} {hs:List HE} {xs:List Value} (h:Hd w base r g n vp hs xs):Spl w base r g n vp hs:=by
 refine ⟨fun x hx=>?_,h.puts,⟨xs,h.all⟩⟩
 have k:=h.each x hx
 have hl:(x.row r).length=x.e.2.2.length + r:=by simp [HE.row,mrk_len]
 refine ⟨(x.row r).map (Value.int .i64),by rw [List.length_map,hl,Nat.mul_one],.inr ⟨x.b,x.e.2.2.length + r,_,rfl,k.ge,k.row,Nat.le_refl _,k.ln,by simp [hl],?_⟩⟩
 rw [List.toList_toArray,List.take_of_length_le (by rw [List.length_map,hl];omega)]
theorem ownsRow_put {w:World} {base:Nat} {T U:TypeId} {size:Nat} {v:Value} {n:Nat} {xs:List Value} (h:w.ownsRow base T size v n xs) {b:Nat} (hU:Typ U w b) (hne:T≠U) (j:Nat) (u:Value):(w.setCell ⟨b,j,none⟩ u).ownsRow base T size v n xs :=
 ownsRow_same h fun b' hb'=>heap_setCell_other w ⟨b,j,none⟩ b' u (fun e=>hne (by subst e;exact hb'.uniq hU))
theorem HE.typ {w:World} {base r n:Nat} {h:HE} {ys:List Value} (k:w.ownsRow base 3 1 (h.sl r) n ys):Typ 3 w h.b:=by
 rcases k.2 with ⟨h1,_⟩ | ⟨g,cap,cur,hv,_,hg,_⟩
 ·cases h1
 ·simp only [HE.sl,Value.slice.injEq,Option.some.injEq,Addr.mk.injEq] at hv
  rw [hv.1.1]
  exact ⟨_,hg⟩
theorem Spl.putI {w:World} {base r g n:Nat} {vp:Value} {hs:List HE} (h:Spl w base r g n vp hs) (x:HE) (hx:x ∈ hs) (j:Nat) (u:Value):Spl (w.setCell ⟨x.b,j,none⟩ u) base r g n vp hs∧Kps (fun k=>(∃ y ∈ hs,k=y.b)∨k=g) w (w.setCell ⟨x.b,j,none⟩ u):=by
 obtain ⟨ys,hys⟩:=h.each x hx
 obtain ⟨s1,s2⟩:=World.ownsRow.stored (by unfold HE.sl at hys;exact hys) j u
 refine ⟨⟨fun y hy=>?_,ownsRow_put h.puts (HE.typ hys) (by decide) j u,?_⟩,Kps.grown s2 fun k e _=>.inl ⟨x,hx,(Option.some.inj e).symm⟩⟩
 ·obtain ⟨zs,hzs⟩:=h.each y hy
  by_cases e:y.b=x.b
  ·unfold HE.sl at hzs ⊢
   rw [e] at hzs ⊢
   exact ⟨_,(World.ownsRow.stored hzs j u).1⟩
  ·exact ⟨zs,World.ownsRow.kept hzs s2 (.inr (fun e2=>e (Option.some.inj e2)))⟩
 ·obtain ⟨xs,hxs⟩:=h.all
  exact ⟨xs,ownsRow_put hxs (HE.typ hys) (by decide) j u⟩
theorem Spl.putE {w:World} {base r g n:Nat} {vp:Value} {hs:List HE} (h:Spl w base r g n vp hs) (j:Nat) (u:Value):Spl (w.setCell ⟨g,j,none⟩ u) base r g n vp hs∧Kps (fun k=>(∃ y ∈ hs,k=y.b)∨k=g) w (w.setCell ⟨g,j,none⟩ u):=by
 obtain ⟨xs,hxs⟩:=h.all
 obtain ⟨s1,s2⟩:=World.ownsRow.stored hxs j u
 have ht:Typ 30 w g:=by
  rcases hxs.2 with ⟨h1,_⟩ | ⟨g',cap,cur,hv,_,hg,_⟩
  ·cases h1
  ·simp only [Value.slice.injEq,Option.some.injEq,Addr.mk.injEq] at hv
   rw [hv.1.1]
   exact ⟨_,hg⟩
 refine ⟨⟨fun y hy=>?_,ownsRow_put h.puts ht (by decide) j u,⟨_,s1⟩⟩,Kps.grown s2 fun k e _=>.inr (Option.some.inj e).symm⟩
 obtain ⟨zs,hzs⟩:=h.each y hy
 exact ⟨zs,ownsRow_put hzs ht (by decide) j u⟩
theorem Spl.ext {w w':World} {base r g n:Nat} {vp:Value} {hs:List HE} (h:Spl w base r g n vp hs) (hb:Below w.heap.size w w'):Spl w' base r g n vp hs :=
 ⟨fun x hx=>(h.each x hx).imp fun _ k=>ownsRow_same k fun b hb'=>hb.block b hb'.lt,ownsRow_same h.puts fun b hb'=>hb.block b hb'.lt,h.all.imp fun _ k=>ownsRow_same k fun b hb'=>hb.block b hb'.lt⟩
theorem Spl.row {w:World} {base r g n:Nat} {ap:Option Addr} {cp:Nat} {hs:List HE} (h:Spl w base r g n (.slice ap hs.length cp) hs) (i:Nat) (x:HE) (hx:hs[i]?=some x):∃ gp,ap=some ⟨gp,0,none⟩∧w.cell? ⟨gp,i,none⟩=some (.slice (some ⟨x.b,0,none⟩) (x.e.2.2.length + r) (x.e.2.2.length + r)):=by
 have hi:=(List.getElem?_eq_some_iff.1 hx).1
 have hp:=h.puts
 rcases hp.2 with ⟨h1,h2⟩ | ⟨gp,cap,cur,hv,_,_⟩
 ·omega
 ·simp only [Value.slice.injEq] at hv
  obtain ⟨rfl,_,rfl⟩:=hv
  refine ⟨gp,rfl,?_⟩
  rw [hp.cellAt i (by omega),List.getElem?_map,hx]
  rfl
set_option maxRecDepth 100000 in
set_option maxHeartbeats 4000000 in
theorem spoil_any (base r g n:Nat) (ap:Option Addr) (cp:Nat) (hs:List HE) (w:World) (h:Spl w base r g n (.slice ap hs.length cp) hs) (hn:n≤9223372036854775807) (hl:hs.length≤9223372036854775807) (hm:∀ x ∈ hs,x.e.2.2.length + r≤9223372036854775807) :
  Calls Tryz.prog 83 #[.agg #[.int .i64 (r:Nat),.slice (some ⟨g,0,none⟩) n n,.slice ap hs.length cp]] w fun e w'=>(∃ v,e=.returned v)∧Kps (fun k=>(∃ y ∈ hs,k=y.b)∨k=g) w w':=by
 obtain ⟨w0,hw0,k2,hb0⟩:∃ w0,w0=w.alloc (.cells #[.int .i64 (r:Nat),.slice (some ⟨g,0,none⟩) n n,.slice ap hs.length cp] 157)∧w0.heap[w.heap.size]?=some (.cells #[.int .i64 (r:Nat),.slice (some ⟨g,0,none⟩) n n,.slice ap hs.length cp] 157 (0,0))∧Below w.heap.size w w0:=⟨_,rfl,heap_alloc_new _ _,ext_alloc (Below.refl _ _) _⟩
 have h0:=h.ext hb0
 have HGL:Hid (∀ k,((∃ y ∈ hs,k=y.b)∨k=g)→k≠w.heap.size):=fun k hk e=>by
  rcases hk with ⟨y,hy,rfl⟩ | rfl
  ·obtain ⟨ys,hys⟩:=h.each y hy
   have:=(HE.typ hys).lt
   omega
  ·obtain ⟨xs,hxs⟩:=h.all
   have:=(hxs.lt k rfl).2
   omega
 have HC:Hid (∀ w',Kps (fun k=>(∃ y ∈ hs,k=y.b)∨k=g) w0 w'→w'.cell? ⟨w.heap.size,1,none⟩=some (.slice (some ⟨g,0,none⟩) n n)∧w'.cell? ⟨w.heap.size,2,none⟩=some (.slice ap hs.length cp)):=fun w' hk=>by
  have e:=(hk.same w.heap.size (Array.getElem?_eq_some_iff.1 k2).1 (fun e=>HGL.out _ e rfl)).trans k2
  refine ⟨?_,?_⟩ <;> (rw [cell_of_row w' _ _ _ _ _ e];rfl)
 have HI0:Hid (Spl w0 base r g n (.slice ap hs.length cp) hs∧Kps (fun k=>(∃ y ∈ hs,k=y.b)∨k=g) w0 w0):=⟨h0,Kps.refl _ _⟩
 have HB0:=hidIt hb0
 have HM:=hidIt hm
 clear h h0 k2 hb0 HGL hm
 go_enter Tryz.func83,Tryz.ntmps83
 go_upto_region 1 with fail
 rw [← hw0]
 clear hw0
 go_wp2_with fail
 go_loopg [2] hs.length (fun gk p wr=>∃ i:Nat,i + gk=hs.length∧p=.int .i64 (i:Nat)∧Hid (Spl wr base r g n (.slice ap hs.length cp) hs∧Kps (fun k=>(∃ y ∈ hs,k=y.b)∨k=g) w0 wr))
 case atStart=>exact ⟨0,by omega,rfl,HI0.out⟩
 case round =>
  obtain ⟨i,hi,rfl,HI⟩:=hrel
  obtain ⟨c1,c2⟩:=HC.out wr HI.out.2
  by_cases hil:i < hs.length
  ·have hil2:(i:Int) < (hs.length:Int):=by omega
   obtain ⟨x,hx⟩:∃ x,hs[i]?=some x:=⟨_,List.getElem?_eq_getElem hil⟩
   have hxm:=List.mem_of_getElem? hx
   have hxl:=HM.out x hxm
   obtain ⟨M,hM⟩:∃ M,M=x.e.2.2.length + r:=⟨_,rfl⟩
   have HRW:Hid (∀ w',Spl w' base r g n (.slice ap hs.length cp) hs→∃ gp,ap=some ⟨gp,0,none⟩∧w'.cell? ⟨gp,i,none⟩=some (.slice (some ⟨x.b,0,none⟩) M M)):=fun w' h'=>by rw [hM];exact h'.row i x hx
   have HST:Hid (∀ w',Spl w' base r g n (.slice ap hs.length cp) hs→∀ j,j < M→(∃ u,w'.cell? ⟨x.b,j,none⟩=some u)∧∀ k,w'.frozen? ⟨x.b,k,none⟩=false):=fun w' h' j hj=>by
    obtain ⟨ys,hys⟩:=h'.each x hxm
    unfold HE.sl at hys
    rw [← hM] at hys
    have e:=hys.cellAt j (by omega)
    have e1:=hys.1
    rw [List.getElem?_eq_getElem (by omega)] at e
    exact ⟨⟨_,e⟩,fun k=>hys.frozenAt k⟩
   have HPT:Hid (∀ w' j u,Spl w' base r g n (.slice ap hs.length cp) hs∧Kps (fun k=>(∃ y ∈ hs,k=y.b)∨k=g) w0 w'→Spl (w'.setCell ⟨x.b,j,none⟩ u) base r g n (.slice ap hs.length cp) hs∧Kps (fun k=>(∃ y ∈ hs,k=y.b)∨k=g) w0 (w'.setCell ⟨x.b,j,none⟩ u)):=fun w' j u h'=>by
    obtain ⟨p1,p2⟩:=h'.1.putI x hxm j u
    exact ⟨p1,h'.2.trans p2 fun _ _ e=>e⟩
   rw [← hM] at hxl
   obtain ⟨gp,rfl,cp1⟩:=HRW.out wr HI.out.1
   have hcpx:hs.length≤cp:=by
    have hp:=HI.out.1.puts
    rcases hp.2 with ⟨h1,h2⟩ | ⟨gp',cap,cur,hv,_,_,h3,_⟩
    ·cases h1
    ·simp only [Value.slice.injEq] at hv
     omega
   clear hx hM hxm
   go_wp2_with fail
   go_loopg [3] M (fun gk2 p wr2=>∃ j:Nat,j + gk2=M∧p=.int .i64 (j:Nat)∧Hid (Spl wr2 base r g n (.slice (some ⟨gp,0,none⟩) hs.length cp) hs∧Kps (fun k=>(∃ y ∈ hs,k=y.b)∨k=g) w0 wr2))
   case atStart=>exact ⟨0,by omega,rfl,HI.out⟩
   case round =>
    obtain ⟨j,hj,rfl,HI2⟩:=hrel
    clear c1 c2 cp1
    obtain ⟨c1,c2⟩:=HC.out wr HI2.out.2
    obtain ⟨gp',e5,cp1⟩:=HRW.out wr HI2.out.1
    cases e5
    by_cases hjM:j < M
    ·have hjM2:(j:Int) < (M:Int):=by omega
     obtain ⟨⟨u,cu⟩,fz⟩:=HST.out wr HI2.out.1 j hjM
     have hrem:(33:Int) + Int.tmod (j:Int) 90≤9223372036854775807∧-9223372036854775808≤(33:Int) + Int.tmod (j:Int) 90:=by
      have h1:=Int.tmod_lt_of_pos (j:Int) (show (0:Int) < 90 by omega)
      have h2:=Int.tmod_nonneg 90 (show (0:Int)≤(j:Int) by omega)
      omega
     go_wp2_with fail
     go_roundg (M - (j + 1))
     case rel=>exact ⟨j + 1,by omega,by go_num,HPT.out wr j _ HI2.out⟩
     case measure=>omega
    ·have hjM2:¬ (j:Int) < (M:Int):=by omega
     go_wp2_with fail
     go_roundg (hs.length - (i + 1))
     case rel=>exact ⟨i + 1,by omega,by go_num,HI2.out⟩
     case measure=>omega
  ·have hil2:¬ (i:Int) < (hs.length:Int):=by omega
   have HST:Hid (∀ w',Spl w' base r g n (.slice ap hs.length cp) hs→∀ j,j < n→(∃ u,w'.cell? ⟨g,j * 3,none⟩=some u)∧∀ k,w'.frozen? ⟨g,k,none⟩=false):=fun w' h' j hj=>by
    obtain ⟨ys,hys⟩:=h'.all
    have e:=hys.cellAt (j * 3) (by omega)
    have e1:=hys.1
    rw [List.getElem?_eq_getElem (by omega)] at e
    exact ⟨⟨_,e⟩,fun k=>hys.frozenAt k⟩
   go_wp2_with fail
   go_loopg [4] n (fun gk2 p wr2=>∃ j:Nat,j + gk2=n∧p=.int .i64 (j:Nat)∧Hid (Spl wr2 base r g n (.slice ap hs.length cp) hs∧Kps (fun k=>(∃ y ∈ hs,k=y.b)∨k=g) w0 wr2))
   case atStart=>exact ⟨0,by omega,rfl,HI.out⟩
   case round =>
    obtain ⟨j,hj,rfl,HI2⟩:=hrel
    clear c1 c2
    obtain ⟨c1,c2⟩:=HC.out wr HI2.out.2
    by_cases hjM:j < n
    ·have hjM2:(j:Int) < (n:Int):=by omega
     obtain ⟨⟨u,cu⟩,fz⟩:=HST.out wr HI2.out.1 j hjM
     go_wp2_with fail
     go_roundg (n - (j + 1))
     case rel =>
      obtain ⟨p1,p2⟩:=HI2.out.1.putE (j * 3) (.int .i64 7)
      exact ⟨j + 1,by omega,by go_num,p1,HI2.out.2.trans p2 fun _ _ e=>e⟩
     case measure=>omega
    ·have hjM2:¬ (j:Int) < (n:Int):=by omega
     go_wp2_with fail
     have FIN:Hid ((∀ u:Value,∃ v,Ending.returned u=.returned v)∧Kps (fun k=>(∃ y ∈ hs,k=y.b)∨k=g) w wr):=⟨fun u=>⟨u,rfl⟩,(Kps.of_below _ HB0.out).trans HI2.out.2 fun _ _ e=>e⟩
     refine bodyPost_end (results_none rfl _ _ _) rfl ?_
     exact ⟨FIN.out.1 _,FIN.out.2⟩
end Go.Proofs.YtdkpkncolpapoaaGreat.P
