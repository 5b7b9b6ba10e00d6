import Derived.Test.YtdkpkncolpapoaaGreatJ00
import Derived.Test.YtdkpkncolpapoaaGreatJ20
import Derived.Test.YtdkpkncolpapoaaGreatJ25
import Derived.Test.YtdkpkncolpapoaaGreatJ26
import Derived.OwnWalk
import Derived.Deep.CutRange
import Derived.Deep.CutBlock
import Derived.Laws.CopyOwn
namespace Go.Proofs.YtdkpkncolpapoaaGreat.P
open Go.RowKit
theorem Tryz.info_sl:(Tryz.prog.info? 22).map (fun i=>(i.zero,i.size,i.bytes))=some (some (.slice none 0 0),1,24):=by kernel_rfl
theorem RoI.set {w:World} {b:Nat} {zs:List Int} (h:RoI w b zs) (j:Nat) (x:Int):RoI (w.setCell ⟨b,j,none⟩ (.int .i64 x)) b (zs.set j x)∧w.grownBy (w.setCell ⟨b,j,none⟩ (.int .i64 x)) (some b):=by
 obtain ⟨p,q⟩:=set1 h j (.int .i64 x)
 refine ⟨?_,q⟩
 unfold RoI
 rw [p,List.map_set]
 simp
theorem RoI.cell {w:World} {b:Nat} {zs:List Int} (h:RoI w b zs) (j:Nat) (hj:j < zs.length):(∃ x,w.cell? ⟨b,j,none⟩=some (.int .i64 x))∧∀ i,w.frozen? ⟨b,i,none⟩=false:=by
 refine ⟨⟨zs[j],?_⟩,fun i=>by simp [World.frozen?,show w.heap[b]?=_ from h]⟩
 rw [cell_of_row w b _ _ _ _ h]
 simp [hj]
theorem own3 {w:World} {base:Nat} {T:TypeId} {g n:Nat} {xs:List Value} (h:w.ownsRow base T 3 (.slice (some ⟨g,0,none⟩) n n) n xs) (k:Nat) (a b c:Value) :
  (((w.setCell ⟨g,k * 3,none⟩ a).setCell ⟨g,k * 3 + 1,none⟩ b).setCell ⟨g,k * 3 + 2,none⟩ c).ownsRow base T 3 (.slice (some ⟨g,0,none⟩) n n) n (((xs.set (k * 3) a).set (k * 3 + 1) b).set (k * 3 + 2) c)∧w.grownBy (((w.setCell ⟨g,k * 3,none⟩ a).setCell ⟨g,k * 3 + 1,none⟩ b).setCell ⟨g,k * 3 + 2,none⟩ c) (some g):=by
 obtain ⟨h1,h2⟩:=h.stored (k * 3) a
 obtain ⟨h3,h4⟩:=h1.stored (k * 3 + 1) b
 obtain ⟨h5,h6⟩:=h3.stored (k * 3 + 2) c
 exact ⟨h5,grown_trans (grown_trans h2 h4) h6⟩
theorem own3_cells {w:World} {base:Nat} {T:TypeId} {g n:Nat} {xs:List Value} (h:w.ownsRow base T 3 (.slice (some ⟨g,0,none⟩) n n) n xs) (k:Nat) (hk:k < n):(∃ a,w.cell? ⟨g,k * 3,none⟩=some a)∧(∃ b,w.cell? ⟨g,k * 3 + 1,none⟩=some b)∧(∃ c,w.cell? ⟨g,k * 3 + 2,none⟩=some c)∧∀ i,w.frozen? ⟨g,i,none⟩=false:=by
 have hl:=h.1
 have e0:=h.cellAt (k * 3) (by omega)
 have e1:=h.cellAt (k * 3 + 1) (by omega)
 have e2:=h.cellAt (k * 3 + 2) (by omega)
 rw [List.getElem?_eq_getElem (by omega)] at e0 e1 e2
 exact ⟨⟨_,e0⟩,⟨_,e1⟩,⟨_,e2⟩,fun i=>h.frozenAt i⟩
theorem own_typ {w:World} {base:Nat} {T:TypeId} {s g n c m:Nat} {xs:List Value} (h:w.ownsRow base T s (.slice (some ⟨g,0,none⟩) n c) m xs):Typ T w g:=by
 rcases h.2 with ⟨h1,_⟩ | ⟨g',cap,cur,hv,_,hg,_⟩
 ·cases h1
 ·simp only [Value.slice.injEq,Option.some.injEq,Addr.mk.injEq] at hv
  rw [hv.1.1]
  exact ⟨_,hg⟩
theorem Hd.snoc {w:World} {base r g n:Nat} {vp':Value} {hs:List HE} {xs:List Value} (he:∀ y ∈ hs,HEok w base r y) (ha:w.ownsRow base 30 3 (.slice (some ⟨g,0,none⟩) n n) n xs) (hpre:xs.take (hs.length * 3)=hs.flatMap HE.cs) (x:HE) (hx:HEok w base r x) (hp:w.ownsRow base 22 1 vp' (hs.length + 1) (hs.map (HE.sl r) ++ [x.sl r])) (hl:hs.length < n) :
  Hd (((w.setCell ⟨g,hs.length * 3,none⟩ (.int .i64 x.e.1)).setCell ⟨g,hs.length * 3 + 1,none⟩ (.int .i64 x.e.2.1)).setCell ⟨g,hs.length * 3 + 2,none⟩ x.pv) base r g n vp' (hs ++ [x]) (((xs.set (hs.length * 3) (.int .i64 x.e.1)).set (hs.length * 3 + 1) (.int .i64 x.e.2.1)).set (hs.length * 3 + 2) x.pv)∧w.grownBy (((w.setCell ⟨g,hs.length * 3,none⟩ (.int .i64 x.e.1)).setCell ⟨g,hs.length * 3 + 1,none⟩ (.int .i64 x.e.2.1)).setCell ⟨g,hs.length * 3 + 2,none⟩ x.pv) (some g):=by
 obtain ⟨p1,p2⟩:=own3 ha hs.length (.int .i64 x.e.1) (.int .i64 x.e.2.1) x.pv
 have ht:=own_typ ha
 have hk:∀ (T:TypeId),T≠30→∀ b,Typ T w b→(((w.setCell ⟨g,hs.length * 3,none⟩ (.int .i64 x.e.1)).setCell ⟨g,hs.length * 3 + 1,none⟩ (.int .i64 x.e.2.1)).setCell ⟨g,hs.length * 3 + 2,none⟩ x.pv).heap[b]?=w.heap[b]?:=fun T hT b hb=>p2.block b hb.lt (fun e=>hT (by have e':=Option.some.inj e;subst e';exact hb.uniq ht))
 refine ⟨⟨fun y hy=>?_,?_,p1,?_⟩,p2⟩
 ·rcases List.mem_append.1 hy with hy | hy
  ·exact (he y hy).same (hk _ (by decide))
  ·rw [List.mem_singleton] at hy
   subst hy
   exact hx.same (hk _ (by decide))
 ·rw [List.length_append,List.map_append]
  exact ownsRow_same hp (hk _ (by decide))
 ·have hxl:=ha.1
  rw [List.length_append,List.length_singleton,take_put3 _ _ _ _ _ (by omega),hpre,List.flatMap_append]
  simp [HE.cs]
theorem ownsRow_mono {w:World} {base base':Nat} {T:TypeId} {s:Nat} {v:Value} {n:Nat} {xs:List Value} (h:w.ownsRow base T s v n xs) (hb:base'≤base):w.ownsRow base' T s v n xs:=by
 refine ⟨h.1,?_⟩
 rcases h.2 with h2 | ⟨g,cap,cur,hv,h3,r⟩
 ·exact .inl h2
 ·exact .inr ⟨g,cap,cur,hv,by omega,r⟩
theorem ownsRow_form {w:World} {base:Nat} {T:TypeId} {s:Nat} {v:Value} {n:Nat} {xs:List Value} (h:w.ownsRow base T s v n xs):∃ a c,v=.slice a n c:=by
 rcases h.2 with ⟨h1,h2⟩ | ⟨g,cap,cur,hv,_⟩
 ·exact ⟨none,0,by rw [h1,h2]⟩
 ·exact ⟨_,_,hv⟩
theorem src_of {w:World} {q:Nat} {pa:Option Addr} {pc:Nat} {ep:List Int} (h:Rd .i64 w (.slice pa ep.length pc) ep) (hp:0 < (ep.map (Value.int .i64)).length):(some (⟨q,0,none⟩:Addr))=some ⟨q,0,none⟩∧∃ ad,pa=some ad∧∀ j u,(ep.map (Value.int .i64))[j]?=some u→w.cell? (ad.add j)=some u:=by
 rw [List.length_map] at hp
 obtain ⟨pa',pc',e1,_,_,h3⟩:=h
 simp only [Value.slice.injEq] at e1
 obtain ⟨rfl,_,rfl⟩:=e1
 obtain ⟨b,off,rfl,hb,hc⟩:=h3 (List.length_pos_iff.1 hp)
 refine ⟨rfl,_,rfl,fun j u hj=>?_⟩
 have hjl:j < ep.length:=by
  have:=(List.getElem?_eq_some_iff.1 hj).1
  rwa [List.length_map] at this
 rw [Addr.add_lit,hc j hjl,← hj,List.getElem?_map,List.getElem?_eq_getElem hjl]
 rfl
structure HdJ (w:World) (r g n i:Nat) (ap:Option Addr) (cp:Nat) (es:List Ed) (hs:List HE) (xs:List Value) (wr:World):Prop where
 blk:wr.heap[w.heap.size + 1]?=some (.cells #[.int .i64 (r:Nat),.slice (some ⟨g,0,none⟩) n n,.slice ap i cp] 157 (0,0))
 res:wr.heap[w.heap.size]?=some (.cells #[.int .i64 0,.slice none 0 0,.slice none 0 0] 157 (0,0))
 hd:Hd wr w.heap.size r g n (.slice ap i cp) hs xs
 es:hs.map HE.e=es.take i
 ln:hs.length=i
 bel:Below w.heap.size w wr
set_option maxRecDepth 100000 in
set_option maxHeartbeats 8000000 in
theorem hand_nil (v:Value) (es:List Ed) (w:World) (hE:EdR w v es) (hp:∀ e ∈ es,e.2.2.length * 8≤140737488351232) (hl:es.length * 40≤140737488351232) :
  Calls Tryz.prog 80 #[.pointer none,v] w fun e w'=>∃ (r g:Nat) (ap:Option Addr) (cp:Nat),e=.returned (.agg #[.int .i64 (r:Nat),.slice (some ⟨g,0,none⟩) (es.length + r) (es.length + r),.slice ap es.length cp])∧Hid (∃ hs:List HE,Hd w' w.heap.size r g (es.length + r) (.slice ap es.length cp) hs (hs.flatMap HE.cs ++ mkE es.length r)∧hs.map HE.e=es∧(r=2∨r=100))∧Below w.heap.size w w':=by
 obtain ⟨ao,cap,rfl,h1,h2,h3⟩:=id hE
 have HE':Hid (∀ w',Below w.heap.size w w'→∀ j e,es[j]?=some e→∃ b off,ao=some ⟨b,off,none⟩∧w'.cell? ⟨b,off + j * 3,none⟩=some (.int .i64 e.1)∧w'.cell? ⟨b,off + j * 3 + 1,none⟩=some (.int .i64 e.2.1)∧∃ pv,w'.cell? ⟨b,off + j * 3 + 2,none⟩=some pv∧Rd .i64 w' pv e.2.2):=fun w' hb j e he=>by
  obtain ⟨ao',cap',e1,_,_,e4⟩:=hE.ext hb
  cases e1
  obtain ⟨b,o,k1,_,k3⟩:=e4 (by intro hn;subst hn;simp at he)
  obtain ⟨c0,c1,c2⟩:=k3 j e he
  exact ⟨b,o,k1,c0,c1,c2⟩
 have HP:=hidIt hp
 clear hE h3 hp
 go_enter Tryz.func80,Tryz.ntmps80
 go_upto_if 15 with fail
 go_cut [15] from 16 to 16 (fun _ wF=>∃ r:Nat,(r=2∨r=100)∧(es.length≤64∨r=2)∧Hid (wF.heap[w.heap.size + 1]?=some (.cells #[.int .i64 (r:Nat),.slice none 0 0,.slice none 0 0] 157 (0,0))∧wF.heap[w.heap.size]?=some (.cells #[.int .i64 0,.slice none 0 0,.slice none 0 0] 157 (0,0))∧Below w.heap.size w wF))
 case first =>
  have hb0:Below w.heap.size w ((w.alloc (.cells #[.int .i64 0,.slice none 0 0,.slice none 0 0] 157)).alloc (.cells #[.int .i64 100,.slice none 0 0,.slice none 0 0] 157)):=ext_alloc (ext_alloc (Below.refl _ _) _) _
  have e0:((w.alloc (.cells #[.int .i64 0,.slice none 0 0,.slice none 0 0] 157)).alloc (.cells #[.int .i64 100,.slice none 0 0,.slice none 0 0] 157)).heap[w.heap.size]?=some (.cells #[.int .i64 0,.slice none 0 0,.slice none 0 0] 157 (0,0)):=(Below.heap_alloc _ _ _ (by simp)).trans (heap_alloc_new _ _)
  have e1:((w.alloc (.cells #[.int .i64 0,.slice none 0 0,.slice none 0 0] 157)).alloc (.cells #[.int .i64 100,.slice none 0 0,.slice none 0 0] 157)).heap[w.heap.size + 1]?=some (.cells #[.int .i64 100,.slice none 0 0,.slice none 0 0] 157 (0,0)):=by
   have e:w.heap.size + 1=(w.alloc (.cells #[.int .i64 0,.slice none 0 0,.slice none 0 0] 157)).heap.size:=by simp
   rw [e]
   exact heap_alloc_new _ _
  generalize hW:(w.alloc (.cells #[.int .i64 0,.slice none 0 0,.slice none 0 0] 157)).alloc (.cells #[.int .i64 100,.slice none 0 0,.slice none 0 0] 157)=W at *
  clear hW
  have HX:=hidIt (⟨e0,e1,hb0⟩:_∧_∧_)
  by_cases hbig:64 < es.length
  ·have hbig2:(64:Int) < (es.length:Int):=by omega
   have c0:W.cell? ⟨w.heap.size + 1,0,none⟩=some (.int .i64 100):=by rw [cell_of_row W _ _ _ _ _ e1];rfl
   have fz:∀ i,W.frozen? ⟨w.heap.size + 1,i,none⟩=false:=fun i=>by simp [World.frozen?,e1]
   clear e0 e1 hb0
   go_wp2_with fail
   go_meet
   case rel =>
    obtain ⟨x0,x1,xb⟩:=HX.out
    obtain ⟨p1,p2⟩:=set1 x1 0 (.int .i64 2)
    refine ⟨2,.inl rfl,.inr rfl,p1,?_,Below.grown xb p2 xb.size (fun k e=>by have:=Option.some.inj e;omega)⟩
    exact (p2.block _ (Array.getElem?_eq_some_iff.1 x0).1 (fun e=>by have:=Option.some.inj e;omega)).trans x0
  ·have hbig2:¬ (64:Int) < (es.length:Int):=by omega
   clear e0 e1 hb0
   go_wp2_with fail
   go_meet
   case rel=>exact ⟨100,.inr rfl,.inl (by omega),HX.out.2.1,HX.out.1,HX.out.2.2⟩
 obtain ⟨r,hr,hr64,HW⟩:=hcut
 have c0:wc.cell? ⟨w.heap.size + 1,0,none⟩=some (.int .i64 (r:Nat)):=by rw [cell_of_row wc _ _ _ _ _ HW.out.1];rfl
 have PE:=hidIt (penEdits_nil (es.length + r) wc (by rcases hr with rfl | rfl <;> omega))
 have hrl:r≤100:=by omega
 have HR:=hidIt hr
 clear hr
 go_wp2_with (go_at_call 110;rw [show ((es.length:Int) + (r:Int))=((es.length + r:Nat):Int) by omega];refine PE.out.mono ?_;rintro e w1 ⟨rfl,hO,hb1⟩;have HO:=hidIt hO;have HB1:=hidIt hb1;have hbk:=(hb1.block _ (Array.getElem?_eq_some_iff.1 HW.out.1).1).trans HW.out.1;have c1:w1.cell? ⟨w.heap.size + 1,1,none⟩=some (.slice none 0 0):=(by rw [cell_of_row w1 _ _ _ _ _ hbk];rfl);have fz:∀ i,w1.frozen? ⟨w.heap.size + 1,i,none⟩=false:=(fun i=>by simp [World.frozen?,hbk]);have HBK:=hidIt hbk;clear hO hb1 hbk;(try dsimp only))
 have hgs:w.heap.size + 1 < wc.heap.size:=(Array.getElem?_eq_some_iff.1 HW.out.1).1
 obtain ⟨g,hg⟩:∃ g,g=wc.heap.size:=⟨_,rfl⟩
 obtain ⟨N,hN⟩:∃ N,N=es.length + r:=⟨_,rfl⟩
 have HJ0:Hid (∃ xs,HdJ w r g N 0 none 0 es [] xs (w1.setCell ⟨w.heap.size + 1,1,none⟩ (.slice (some ⟨wc.heap.size,0,none⟩) (es.length + r) (es.length + r)))):=by
  obtain ⟨xs,hxs⟩:=HO.out
  obtain ⟨p1,p2⟩:=set1 HBK.out 1 (.slice (some ⟨wc.heap.size,0,none⟩) (es.length + r) (es.length + r))
  rw [hg,hN]
  refine ⟨xs,p1,?_,⟨(fun _ h=>by cases h),World.ownsRow_nil _ _ _ _,?_,by simp⟩,rfl,rfl,?_⟩
  ·have x0:=(HB1.out.block _ (by omega)).trans HW.out.2.1
   exact (p2.block _ (Array.getElem?_eq_some_iff.1 x0).1 (fun e=>by have:=Option.some.inj e;omega)).trans x0
  ·exact World.ownsRow.kept (ownsRow_mono hxs (by omega)) p2 (.inr (fun e=>by simp only [Value.ownBlock,Option.some.injEq] at e;omega))
  ·exact Below.grown (HW.out.2.2.trans (HB1.out.mono HW.out.2.2.size)) p2 (Nat.le_trans HW.out.2.2.size HB1.out.size) (fun k e=>by have:=Option.some.inj e;omega)
 generalize hWJ:w1.setCell ⟨w.heap.size + 1,1,none⟩ (.slice (some ⟨wc.heap.size,0,none⟩) (es.length + r) (es.length + r))=wj at *
 have HNN:=hidIt hN
 clear hWJ HO HB1 HBK PE HW c0 c1 fz hgs hg hN
 obtain ⟨i0,hi0,hz00,hz01,hz02⟩:=info_parts Tryz.info_i64
 obtain ⟨i1,hi1,hz10,hz11,hz12⟩:=info_parts Tryz.info_sl
 have hz0':(Tryz.prog.info? 3).map (·.size)=some 1:=by rw [hi0];simp [hz01]
 go_wp2_with fail
 go_loopg [6] es.length (fun gk p wr=>∃ (i:Nat) (hs:List HE) (ap:Option Addr) (cp:Nat) (xs:List Value),i + gk=es.length∧p=.int .i64 (i:Nat)∧Hid (HdJ w r g N i ap cp es hs xs wr))
 case atStart =>
  obtain ⟨xs,h⟩:=HJ0.out
  exact ⟨0,[],none,0,xs,by omega,rfl,h⟩
 case round =>
  obtain ⟨i,hs,ap,cp,xs,hi,rfl,HJ⟩:=hrel
  generalize wr=wo at *
  have HBLK:Hid (∀ w',Below wo.heap.size wo w'→w'.heap[w.heap.size + 1]?=some (.cells #[.int .i64 (r:Nat),.slice (some ⟨g,0,none⟩) N N,.slice ap i cp] 157 (0,0))∧w'.cell? ⟨w.heap.size + 1,0,none⟩=some (.int .i64 (r:Nat))∧w'.cell? ⟨w.heap.size + 1,1,none⟩=some (.slice (some ⟨g,0,none⟩) N N)∧w'.cell? ⟨w.heap.size + 1,2,none⟩=some (.slice ap i cp)):=fun w' hb=>by
   have e:=(hb.block _ (Array.getElem?_eq_some_iff.1 HJ.out.blk).1).trans HJ.out.blk
   refine ⟨e,?_,?_,?_⟩ <;> (rw [cell_of_row w' _ _ _ _ _ e];rfl)
  by_cases hil:i < es.length
  ·have hil2:(i:Int) < (es.length:Int):=by omega
   obtain ⟨e,hej⟩:∃ e,es[i]?=some e:=⟨_,List.getElem?_eq_getElem hil⟩
   obtain ⟨b,o,rfl,k0,k1,pv,k2,hpv⟩:=HE'.out w (Below.refl _ _) i e hej
   obtain ⟨pa,pc,rfl,hp1,hp2,hp3⟩:=id hpv
   have hpl:=HP.out e (List.mem_of_getElem? hej)
   obtain ⟨ef,et,ep⟩:=e
   simp only at *
   have hbl:=World.block_lt_of_cell? w _ k0
   have HCW:Hid (∀ w',Below w.heap.size w w'→w'.cell? ⟨b,o + i * 3,none⟩=some (.int .i64 ef)∧w'.cell? ⟨b,o + i * 3 + 1,none⟩=some (.int .i64 et)∧w'.cell? ⟨b,o + i * 3 + 2,none⟩=some (.slice pa ep.length pc)∧Rd .i64 w' (.slice pa ep.length pc) ep):=fun w' hb=>⟨(hb.cell (p:=⟨b,o + i * 3,none⟩) hbl).trans k0,(hb.cell (p:=⟨b,o + i * 3 + 1,none⟩) hbl).trans k1,(hb.cell (p:=⟨b,o + i * 3 + 2,none⟩) hbl).trans k2,hpv.ext hb⟩
   have HPA:Hid (pa=none→ep=[]):=fun e=>by
    by_cases hn:ep=[]
    ·exact hn
    ·obtain ⟨b',o',e',_⟩:=hp3 hn
     rw [e] at e'
     cases e'
   obtain ⟨M,hM⟩:∃ M,M=ep.length + r:=⟨_,rfl⟩
   have PP:=hidIt (penPut_nil (i:Int) M wo (by omega))
   have HEJ:=hidIt hej
   clear k0 k1 k2 hpv hp3 hej hbl
   obtain ⟨c0,c1,c2,_⟩:=HCW.out wo HJ.out.bel
   obtain ⟨_,d0,d1,d2⟩:=HBLK.out wo (Below.refl _ _)
   have HMM:=hidIt (show (ep.length:Int) + (r:Int)=(M:Int) by omega)
   have HM:=hidIt hM
   have hMb:ep.length≤17592186044416:=by omega
   have hMb2:M≤17592186044616:=by omega
   have hMr:ep.length≤M:=by omega
   clear hM
   go_upto_region 11 with (first
    | (go_at_call 111;rw [HMM.out];refine PP.out.mono ?_;rintro e w2 ⟨rfl,hro,hb2⟩;have HRO:=hidIt hro;have HB2:=hidIt hb2;clear c0 c1 c2 d0 d1 d2;obtain ⟨c0,c1,c2,_⟩:=HCW.out w2 (ext_trans HJ.out.bel hb2);have HSRC:Hid (0 < (ep.map (Value.int .i64)).length→(some (⟨wo.heap.size,0,none⟩:Addr))=some ⟨wo.heap.size,0,none⟩∧∃ ad,pa=some ad∧∀ j u,(ep.map (Value.int .i64))[j]?=some u→w2.cell? (ad.add j)=some u):=(fun hp=>src_of (HCW.out w2 (ext_trans HJ.out.bel HB2.out)).2.2.2 hp);clear hro hb2;(try dsimp only))
    | (refine wpList_copy_splice rfl _ _ 22 22 rfl 3 Tryz.underlying22 hz0' _ _ _ _ _ _ rfl rfl wo.heap.size 0 ((List.replicate M (0:Int)).map (Value.int .i64)) 3 HRO.out (ep.map (Value.int .i64)) (by rw [List.length_map];exact (Nat.min_eq_left (by omega)).symm) HSRC.out (by simp only [List.length_map,List.length_replicate];omega) (by simp [Value.oneCell']) wo.heap.size wo HB2.out (Nat.le_refl _) ?_;intro w3 hE3 hb3;have HE3:=hidIt hE3.out;have HB3:=hidIt hb3;clear hE3 hb3 c0 c1 c2))
   have HZ3:Hid (∃ zs:List Int,zs.length=M∧zs.take ep.length=ep∧RoI w3 wo.heap.size zs):=by
    refine ⟨ep ++ List.replicate r 0,by simp [HM.out],by simp,?_⟩
    have e:=HE3.out
    rw [show splice ((List.replicate M (0:Int)).map (Value.int .i64)) 0 (ep.map (Value.int .i64))=(ep ++ List.replicate r (0:Int)).map (Value.int .i64) by
     unfold splice
     rw [List.take_zero,List.nil_append,Nat.zero_add,List.length_map,List.map_append,HM.out,← List.map_drop,List.drop_replicate,Nat.add_sub_cancel_left]] at e
    exact e
   clear HE3 HRO HSRC PP
   go_wp2_with fail
   go_loopg [9] r (fun gk2 p wr2=>∃ (k j:Nat),k + gk2=r∧j=ep.length + k∧p=.int .i64 (j:Nat)∧Hid (∃ zs:List Int,zs.length=M∧zs.take j=ep ++ mrk ep.length k∧RoI wr2 wo.heap.size zs∧Below wo.heap.size wo wr2))
   case atStart =>
    obtain ⟨zs,z1,z2,z3⟩:=HZ3.out
    exact ⟨0,ep.length,by omega,rfl,rfl,zs,z1,by rw [z2];simp [mrk],z3,HB3.out⟩
   case round =>
    obtain ⟨k,j,hk,hj,rfl,HZ⟩:=hrel
    by_cases hkr:k < r
    ·have hjM:j < M:=by have:=HM.out;omega
     have hjM2:(j:Int) < (M:Int):=by omega
     obtain ⟨zs,z1,z2,z3,z4⟩:=HZ.out
     obtain ⟨⟨x,cx⟩,fz⟩:=z3.cell j (by omega)
     have HNX:Hid (∃ zs':List Int,zs'.length=M∧zs'.take (j + 1)=ep ++ mrk ep.length (k + 1)∧RoI (wr.setCell ⟨wo.heap.size,j,none⟩ (.int .i64 (771 + (j:Int)))) wo.heap.size zs'∧Below wo.heap.size wo (wr.setCell ⟨wo.heap.size,j,none⟩ (.int .i64 (771 + (j:Int))))):=by
      obtain ⟨p1,p2⟩:=z3.set j (771 + (j:Int))
      refine ⟨_,by rw [List.length_set];exact z1,?_,p1,Below.grown z4 p2 z4.size (fun k' e=>by have:=Option.some.inj e;omega)⟩
      rw [take_put1 _ _ _ (by omega),z2,mrk_succ,← hj,List.append_assoc]
     have HJJ:=hidIt hj
     clear z1 z2 z3 z4 hj
     go_wp2_with fail
     go_roundg (r - (k + 1))
     case rel=>exact ⟨k + 1,j + 1,by omega,by have:=HJJ.out;omega,by go_num,HNX.out⟩
     case measure=>omega
    ·have hjM2:¬ (j:Int) < (M:Int):=by have:=HM.out;omega
     have HQ:Hid (RoI wr wo.heap.size (ep ++ mrk ep.length r)∧Below wo.heap.size wo wr):=by
      obtain ⟨zs,z1,z2,z3,z4⟩:=HZ.out
      obtain rfl:k=r:=by omega
      rw [List.take_of_length_le (by have:=HM.out;omega)] at z2
      rw [z2] at z3
      exact ⟨z3,z4⟩
     clear HZ hj hk hkr
     obtain ⟨hbk,d0,d1,d2⟩:=HBLK.out wr HQ.out.2
     have HHB:=hidIt hbk
     clear hbk
     have HNE:Hid (∀ b T,Typ T wr b→T≠22→some b≠(Value.slice ap i cp).ownBlock):=fun b T hb hT e=>by
      have hpu:=HJ.out.hd.puts
      rcases hpu.2 with ⟨e1,_⟩ | ⟨gp,cap',cur,hv,_,hgp,_⟩
      ·rw [e1] at e
       cases e
      ·rw [hv] at e
       have e':b=gp:=by simpa [Value.ownBlock] using e
       subst e'
       exact hT (hb.uniq ⟨_,(HQ.out.2.block _ (Array.getElem?_eq_some_iff.1 hgp).1).trans hgp⟩)
     have HOW:Hid ((wr.alloc (.cells #[.slice (some ⟨wo.heap.size,0,none⟩) M M] 22)).ownsRow w.heap.size 22 1 (.slice ap i cp) i (hs.map (HE.sl r))):=by
      have:=HJ.out.hd.puts
      rw [HJ.out.ln] at this
      exact ownsRow_same this (fun b' hb'=>(ext_alloc HQ.out.2 _).block b' hb'.lt)
     have HNW:Hid (∀ j' u,([.slice (some ⟨wo.heap.size,0,none⟩) M M]:List Value)[j']?=some u→(wr.alloc (.cells #[.slice (some ⟨wo.heap.size,0,none⟩) M M] 22)).cell? ((⟨wr.heap.size,0,none⟩:Addr).add j')=some u):=fun j' u hj'=>by
      cases j' with
      | zero =>
        simp only [List.getElem?_cons_zero,Option.some.injEq] at hj'
        subst hj'
        rw [show ((⟨wr.heap.size,0,none⟩:Addr).add 0)=⟨wr.heap.size,0,none⟩ from rfl,cell_of_row _ _ _ _ _ _ (heap_alloc_new _ _)]
        rfl
      | succ j'=>simp at hj'
     have HSZ:=hidIt (show w.heap.size≤(wr.alloc (.cells #[.slice (some ⟨wo.heap.size,0,none⟩) M M] 22)).heap.size from Nat.le_trans HJ.out.bel.size (Nat.le_trans HQ.out.2.size (size_alloc_le _ _)))
     have HH5:Hid (∀ w5,(wr.alloc (.cells #[.slice (some ⟨wo.heap.size,0,none⟩) M M] 22)).grownBy w5 (Value.slice ap i cp).ownBlock→w5.heap[w.heap.size + 1]?=some (.cells #[.int .i64 (r:Nat),.slice (some ⟨g,0,none⟩) N N,.slice ap i cp] 157 (0,0))):=fun w5 hg5=>by
      have hlt:=(Array.getElem?_eq_some_iff.1 HHB.out).1
      rw [hg5.block _ (Nat.lt_of_lt_of_le hlt (size_alloc_le _ _)) (HNE.out _ _ ⟨_,HHB.out⟩ (by decide)),(ext_alloc (Below.refl wr.heap.size wr) _).block _ hlt]
      exact HHB.out
     go_upto_region 16 with (at_builtin;refine wpList_append_own _ rfl _ _ 93 rfl w.heap.size 22 i1 (.slice none 0 0) 1 24 Tryz.underlying93 hi1 hz10 hz11 hz12 rfl (by decide) (.slice ap i cp) i (hs.map (HE.sl r)) rfl HOW.out ⟨wr.heap.size,0,none⟩ 1 1 [.slice (some ⟨wo.heap.size,0,none⟩) M M] rfl rfl HNW.out (by intro u hu;rw [List.mem_singleton] at hu;subst hu;rfl) (by unfold maxLen;omega) (by omega) HSZ.out ?_;intro v5 w5 ho5 hg5 _;obtain ⟨a5,c5,hv5⟩:=ownsRow_form ho5;subst hv5;have HO5:=hidIt ho5;have HG5:=hidIt hg5;have h5:=HH5.out w5 hg5;have e2:w5.cell? ⟨w.heap.size + 1,2,none⟩=some (.slice ap i cp):=(by rw [cell_of_row w5 _ _ _ _ _ h5];rfl);have f2:∀ k,w5.frozen? ⟨w.heap.size + 1,k,none⟩=false:=(fun k=>by simp [World.frozen?,h5]);have HB5:=hidIt h5;clear ho5 hg5 h5 d0 d1 d2)
     have HK6:Hid ((w5.setCell ⟨w.heap.size + 1,2,none⟩ (.slice a5 (i + 1) c5)).heap[w.heap.size + 1]?=some (.cells #[.int .i64 (r:Nat),.slice (some ⟨g,0,none⟩) N N,.slice a5 (i + 1) c5] 157 (0,0))∧(w5.setCell ⟨w.heap.size + 1,2,none⟩ (.slice a5 (i + 1) c5)).heap[w.heap.size]?=some (.cells #[.int .i64 0,.slice none 0 0,.slice none 0 0] 157 (0,0))∧(∀ y ∈ hs,HEok (w5.setCell ⟨w.heap.size + 1,2,none⟩ (.slice a5 (i + 1) c5)) w.heap.size r y)∧(w5.setCell ⟨w.heap.size + 1,2,none⟩ (.slice a5 (i + 1) c5)).ownsRow w.heap.size 30 3 (.slice (some ⟨g,0,none⟩) N N) N xs∧(w5.setCell ⟨w.heap.size + 1,2,none⟩ (.slice a5 (i + 1) c5)).ownsRow w.heap.size 22 1 (.slice a5 (i + 1) c5) (i + 1) (hs.map (HE.sl r) ++ [.slice (some ⟨wo.heap.size,0,none⟩) M M])∧RoI (w5.setCell ⟨w.heap.size + 1,2,none⟩ (.slice a5 (i + 1) c5)) wo.heap.size (ep ++ mrk ep.length r)∧Below w.heap.size w (w5.setCell ⟨w.heap.size + 1,2,none⟩ (.slice a5 (i + 1) c5))):=by
      obtain ⟨p1,p2⟩:=set1 HB5.out 2 (.slice a5 (i + 1) c5)
      have hsz:wr.heap.size≤w5.heap.size:=Nat.le_trans (size_alloc_le wr _) HG5.out.size
      have hlt:=(Array.getElem?_eq_some_iff.1 HHB.out).1
      have hst:∀ T b,T≠22→b≠w.heap.size + 1→Typ T wr b→(w5.setCell ⟨w.heap.size + 1,2,none⟩ (.slice a5 (i + 1) c5)).heap[b]?=wr.heap[b]?:=fun T b h1 h2 h3=>by
       rw [p2.block b (Nat.lt_of_lt_of_le h3.lt hsz) (fun e=>h2 (Option.some.inj e)),HG5.out.block b (Nat.lt_of_lt_of_le h3.lt (size_alloc_le _ _)) (HNE.out b T h3 h1),(ext_alloc (Below.refl wr.heap.size wr) _).block b h3.lt]
      have hst2:∀ T,T≠22→T≠157→∀ b,Typ T wr b→(w5.setCell ⟨w.heap.size + 1,2,none⟩ (.slice a5 (i + 1) c5)).heap[b]?=wr.heap[b]?:=fun T h1 h2 b h3=>hst T b h1 (fun e=>h2 (by subst e;exact h3.uniq ⟨_,HHB.out⟩)) h3
      have hrs:=(HQ.out.2.block _ (Array.getElem?_eq_some_iff.1 HJ.out.res).1).trans HJ.out.res
      have hd:=HJ.out.hd.ext HQ.out.2
      refine ⟨p1,(hst _ _ (by decide) (by omega) ⟨_,hrs⟩).trans hrs,fun y hy=>(hd.each y hy).same (hst2 _ (by decide) (by decide)),ownsRow_same hd.all (hst2 _ (by decide) (by decide)),?_,?_,?_⟩
      ·exact ownsRow_put HO5.out ⟨_,HB5.out⟩ (by decide) _ _
      ·unfold RoI
       rw [hst2 _ (by decide) (by decide) _ ⟨_,HQ.out.1⟩]
       exact HQ.out.1
      ·have hb5:Below w.heap.size w w5:=Below.grown (ext_alloc (ext_trans HJ.out.bel HQ.out.2) _) HG5.out HSZ.out (fun k e=>(World.ownsRow.lt HOW.out k e).1)
       exact Below.grown hb5 p2 hb5.size (fun k e=>by have:=Option.some.inj e;omega)
     generalize w5.setCell ⟨w.heap.size + 1,2,none⟩ (.slice a5 (i + 1) c5)=w6 at *
     clear HO5 HG5 HB5 HH5 HOW HNW HSZ HNE HHB HQ e2 f2
     have FIN:Hid (∀ wB pv,Below w6.heap.size w6 wB→((pv=.slice none 0 0∧ep=[])∨pv=.slice (some ⟨wo.heap.size,0,none⟩) ep.length M)→∃ hs' xs',HdJ w r g N (i + 1) a5 c5 es hs' xs' (((wB.setCell ⟨g,i * 3,none⟩ (.int .i64 ef)).setCell ⟨g,i * 3 + 1,none⟩ (.int .i64 et)).setCell ⟨g,i * 3 + 2,none⟩ pv)):=fun wB pv hb hpv=>by
      obtain ⟨q1,q2,q3,q4,q5,q6,q7⟩:=HK6.out
      have hln:=HJ.out.ln
      have hx:HEok wB w.heap.size r ⟨(ef,et,ep),wo.heap.size,pv⟩:=by
       refine ⟨HJ.out.bel.size,?_,?_,?_⟩
       ·unfold RoI
        rw [hb.block _ (Array.getElem?_eq_some_iff.1 q6).1]
        exact q6
       ·rcases hpv with ⟨h1,h2⟩ | h1
        ·exact .inl ⟨h1,h2⟩
        ·exact .inr (by rw [h1,HM.out])
       ·show ep.length + r≤_
        omega
      have hq5:wB.ownsRow w.heap.size 22 1 (.slice a5 (i + 1) c5) (hs.length + 1) (hs.map (HE.sl r) ++ [HE.sl r ⟨(ef,et,ep),wo.heap.size,pv⟩]):=by
       rw [hln]
       have:=ownsRow_same q5 (fun b' hb'=>hb.block b' hb'.lt)
       unfold HE.sl at this ⊢
       rw [← HM.out]
       exact this
      obtain ⟨s1,s2⟩:=Hd.snoc (fun y hy=>(q3 y hy).same (fun b' hb'=>hb.block b' hb'.lt)) (ownsRow_same q4 (fun b' hb'=>hb.block b' hb'.lt)) HJ.out.hd.pre ⟨(ef,et,ep),wo.heap.size,pv⟩ hx hq5 (by have:=HNN.out;omega)
      rw [hln] at s1 s2
      have hgt:Typ 30 wB g:=(own_typ q4).ext hb
      have hgl:=(q4.lt g rfl).1
      have r1:=(hb.block _ (Array.getElem?_eq_some_iff.1 q1).1).trans q1
      have r2:=(hb.block _ (Array.getElem?_eq_some_iff.1 q2).1).trans q2
      have hbB:=ext_trans q7 hb
      refine ⟨_,_,?_,?_,s1,?_,?_,Below.grown hbB s2 hbB.size (fun k e=>by have:=Option.some.inj e;omega)⟩
      ·exact (s2.block _ (Array.getElem?_eq_some_iff.1 r1).1 (fun e=>by have e':=Option.some.inj e;subst e';exact absurd (hgt.uniq ⟨_,r1⟩) (by decide))).trans r1
      ·exact (s2.block _ (Array.getElem?_eq_some_iff.1 r2).1 (fun e=>by have e':=Option.some.inj e;subst e';exact absurd (hgt.uniq ⟨_,r2⟩) (by decide))).trans r2
      ·rw [List.map_append,HJ.out.es,List.take_add_one,HEJ.out]
       rfl
      ·simp [hln]
     have HGC:Hid (∀ wB,Below w6.heap.size w6 wB→(wB.cell? ⟨w.heap.size + 1,1,none⟩=some (.slice (some ⟨g,0,none⟩) N N))∧(∃ a,wB.cell? ⟨g,i * 3,none⟩=some a)∧(∃ b,wB.cell? ⟨g,i * 3 + 1,none⟩=some b)∧(∃ c,wB.cell? ⟨g,i * 3 + 2,none⟩=some c)∧(∀ k,wB.frozen? ⟨g,k,none⟩=false)∧g < w6.heap.size):=fun wB hb=>by
      obtain ⟨q1,q2,q3,q4,q5,q6,q7⟩:=HK6.out
      have r1:=(hb.block _ (Array.getElem?_eq_some_iff.1 q1).1).trans q1
      obtain ⟨x1,x2,x3,x4⟩:=own3_cells (ownsRow_same q4 (fun b' hb'=>hb.block b' hb'.lt)) i (by have:=HNN.out;omega)
      exact ⟨by rw [cell_of_row wB _ _ _ _ _ r1];rfl,x1,x2,x3,x4,(q4.lt g rfl).2⟩
     have HB6:=hidIt HK6.out.2.2.2.2.2.2
     have hiN:i < N:=by have:=HNN.out;omega
     have hiN2:(i:Int) < (N:Int):=by omega
     clear HK6
     go_cut [10] from 69 to 79 (fun ve wF=>ve=.pointer (some ⟨w6.heap.size,0,none⟩)∧Hid (Below w6.heap.size w6 wF∧wF.heap[w6.heap.size]?=some (.cells #[.int .i64 ef,.int .i64 et,.slice none 0 0] 30 (0,0))))
     case first =>
      obtain ⟨c0,c1,c2,_⟩:=HCW.out w6 HB6.out
      have HCD:Hid (∀ w',Below w6.heap.size w6 w'→w'.cell? ⟨b,o + i * 3,none⟩=some (.int .i64 ef)∧w'.cell? ⟨b,o + i * 3 + 1,none⟩=some (.int .i64 et)):=fun w' hb=>by
       obtain ⟨c0,c1,_,_⟩:=HCW.out w' (ext_trans HB6.out hb)
       exact ⟨c0,c1⟩
      go_region_held3 (fun w'=>w'.cell? ⟨b,o + i * 3,none⟩=some (.int .i64 ef)∧w'.cell? ⟨b,o + i * 3 + 1,none⟩=some (.int .i64 et)) (first | exact HCD.out _ (by repeat (first | exact Below.refl _ _ | apply Below.drew | refine ext_alloc ?_ _)) | go_keep) (fail)
      all_goals go_wp2_with fail
      all_goals go_meet
      case rel=>exact ⟨rfl,Below.drew (ext_alloc (Below.refl _ _) _),heap_alloc_new _ _⟩
     obtain ⟨rfl,hwc⟩:=hcut
     obtain ⟨wA,hwA⟩:∃ wA,wA=wc:=⟨_,rfl⟩
     rw [← hwA] at hwc ⊢
     obtain ⟨hbA,hkA⟩:=hwc.out
     clear hwc hwA
     have HBA:=hidIt hbA
     have HKA:=hidIt hkA
     obtain ⟨c0,c1,c2,_⟩:=HCW.out wA (ext_trans HB6.out hbA)
     obtain ⟨g1,⟨x0,g2⟩,⟨x1,g3⟩,⟨x2,g4⟩,gf,hgl⟩:=HGC.out wA hbA
     have k0:wA.cell? ⟨w6.heap.size,0,none⟩=some (.int .i64 ef):=by rw [cell_of_row wA _ _ _ _ _ hkA];rfl
     have k1:wA.cell? ⟨w6.heap.size,1,none⟩=some (.int .i64 et):=by rw [cell_of_row wA _ _ _ _ _ hkA];rfl
     have k2:wA.cell? ⟨w6.heap.size,2,none⟩=some (.slice none 0 0):=by rw [cell_of_row wA _ _ _ _ _ hkA];rfl
     have kf:∀ k,wA.frozen? ⟨w6.heap.size,k,none⟩=false:=fun k=>by simp [World.frozen?,hkA]
     have hM0:¬ M=0:=by have:=HM.out;have:=HR.out;omega
     have hM0':¬ 0=M:=by omega
     have hMr2:(ep.length:Int)≤(M:Int):=by omega
     clear hbA hkA
     cases pa with
     | none =>
       go_wp2_with fail
       go_roundg (es.length - (i + 1))
       case rel =>
        obtain ⟨hs',xs',h⟩:=FIN.out wA (.slice none 0 0) HBA.out (.inl ⟨rfl,HPA.out (by trivial)⟩)
        exact ⟨i + 1,hs',a5,c5,xs',by omega,by go_num,h⟩
       case measure=>omega
     | some ad =>
       go_upto_region 19 with fail
       have HSB:Hid (Below w6.heap.size w6 (wA.setCell ⟨w6.heap.size,2,none⟩ (.slice (some ⟨wo.heap.size,0,none⟩) ep.length M))∧(wA.setCell ⟨w6.heap.size,2,none⟩ (.slice (some ⟨wo.heap.size,0,none⟩) ep.length M)).heap[w6.heap.size]?=some (.cells #[.int .i64 ef,.int .i64 et,.slice (some ⟨wo.heap.size,0,none⟩) ep.length M] 30 (0,0))):=by
        obtain ⟨p1,p2⟩:=set1 HKA.out 2 (.slice (some ⟨wo.heap.size,0,none⟩) ep.length M)
        exact ⟨Below.grown HBA.out p2 HBA.out.size (fun k e=>by have:=Option.some.inj e;omega),p1⟩
       clear g1 g2 g3 g4 gf k0 k1 k2 kf c0 c1 c2
       generalize wA.setCell ⟨w6.heap.size,2,none⟩ (.slice (some ⟨wo.heap.size,0,none⟩) ep.length M)=wB at *
       obtain ⟨g1,⟨x0,g2⟩,⟨x1,g3⟩,⟨x2,g4⟩,gf,_⟩:=HGC.out wB HSB.out.1
       have k0:wB.cell? ⟨w6.heap.size,0,none⟩=some (.int .i64 ef):=by rw [cell_of_row wB _ _ _ _ _ HSB.out.2];rfl
       have k1:wB.cell? ⟨w6.heap.size,1,none⟩=some (.int .i64 et):=by rw [cell_of_row wB _ _ _ _ _ HSB.out.2];rfl
       have k2:wB.cell? ⟨w6.heap.size,2,none⟩=some (.slice (some ⟨wo.heap.size,0,none⟩) ep.length M):=by rw [cell_of_row wB _ _ _ _ _ HSB.out.2];rfl
       go_wp2_with fail
       go_roundg (es.length - (i + 1))
       case rel =>
        obtain ⟨hs',xs',h⟩:=FIN.out wB _ HSB.out.1 (.inr rfl)
        exact ⟨i + 1,hs',a5,c5,xs',by omega,by go_num,h⟩
       case measure=>omega
  ·have hil2:¬ (i:Int) < (es.length:Int):=by omega
   obtain rfl:i=es.length:=by omega
   have HX0:Hid (∃ xs,HdJ w r g N es.length ap cp es hs xs wo∧xs.take (es.length * 3)=hs.flatMap HE.cs ++ mkE es.length 0):=by
    refine ⟨xs,HJ.out,?_⟩
    have:=HJ.out.hd.pre
    rw [HJ.out.ln] at this
    rw [this]
    simp [mkE]
   clear HBLK
   go_wp2_with fail
   go_loopg [11] r (fun gk2 p wr2=>∃ (k j:Nat),k + gk2=r∧j=es.length + k∧p=.int .i64 (j:Nat)∧Hid (∃ xs,HdJ w r g N es.length ap cp es hs xs wr2∧xs.take (j * 3)=hs.flatMap HE.cs ++ mkE es.length k))
   case atStart=>exact ⟨0,es.length,by omega,rfl,rfl,HX0.out⟩
   case round =>
    obtain ⟨k,j,hk,hj,rfl,HX⟩:=hrel
    obtain ⟨xs2,hX,hT⟩:=HX.out
    have c1:wr.cell? ⟨w.heap.size + 1,1,none⟩=some (.slice (some ⟨g,0,none⟩) N N):=by rw [cell_of_row wr _ _ _ _ _ hX.blk];rfl
    by_cases hkr:k < r
    ·have hjN:j < N:=by have:=HNN.out;omega
     have hjN2:(j:Int) < (N:Int):=by omega
     obtain ⟨⟨x0,g2⟩,⟨x1,g3⟩,⟨x2,g4⟩,gf⟩:=own3_cells hX.hd.all j hjN
     have HNX:Hid (∃ xs,HdJ w r g N es.length ap cp es hs xs (((wr.setCell ⟨g,j * 3,none⟩ (.int .i64 (-771 - (j:Int)))).setCell ⟨g,j * 3 + 1,none⟩ (.int .i64 (-772))).setCell ⟨g,j * 3 + 2,none⟩ (.slice none 0 0))∧xs.take ((j + 1) * 3)=hs.flatMap HE.cs ++ mkE es.length (k + 1)):=by
      obtain ⟨p1,p2⟩:=own3 hX.hd.all j (.int .i64 (-771 - (j:Int))) (.int .i64 (-772)) (.slice none 0 0)
      have ht:=own_typ hX.hd.all
      have hgl:=(hX.hd.all.lt g rfl).1
      have hxl:=hX.hd.all.1
      have hst:∀ T,T≠30→∀ b,Typ T wr b→(((wr.setCell ⟨g,j * 3,none⟩ (.int .i64 (-771 - (j:Int)))).setCell ⟨g,j * 3 + 1,none⟩ (.int .i64 (-772))).setCell ⟨g,j * 3 + 2,none⟩ (.slice none 0 0)).heap[b]?=wr.heap[b]?:=fun T hT b hb=>p2.block b hb.lt (fun e=>hT (by have e':=Option.some.inj e;subst e';exact hb.uniq ht))
      have hpre:(((xs2.set (j * 3) (.int .i64 (-771 - (j:Int)))).set (j * 3 + 1) (.int .i64 (-772))).set (j * 3 + 2) (.slice none 0 0)).take ((j + 1) * 3)=hs.flatMap HE.cs ++ mkE es.length (k + 1):=by
       rw [take_put3 _ _ _ _ _ (by omega),hT,mkE_succ,← hj,List.append_assoc]
      refine ⟨_,⟨(hst _ (by decide) _ ⟨_,hX.blk⟩).trans hX.blk,(hst _ (by decide) _ ⟨_,hX.res⟩).trans hX.res,⟨fun y hy=>(hX.hd.each y hy).same (hst _ (by decide)),ownsRow_same hX.hd.puts (hst _ (by decide)),p1,?_⟩,hX.es,hX.ln,Below.grown hX.bel p2 hX.bel.size (fun k' e=>by have:=Option.some.inj e;omega)⟩,hpre⟩
      have:=congrArg (List.take (hs.length * 3)) hpre
      rw [List.take_take,Nat.min_eq_left (by have:=hX.ln;omega),List.take_left' (cs_len hs)] at this
      exact this
     have HJJ:=hidIt hj
     have hjb:j≤17592186044416:=by omega
     clear hX hT hj
     go_wp2_with fail
     go_roundg (r - (k + 1))
     case rel=>exact ⟨k + 1,j + 1,by omega,by have:=HJJ.out;omega,by go_num,HNX.out⟩
     case measure=>omega
    ·have hjN2:¬ (j:Int) < (N:Int):=by have:=HNN.out;omega
     have c0:wr.cell? ⟨w.heap.size + 1,0,none⟩=some (.int .i64 (r:Nat)):=by rw [cell_of_row wr _ _ _ _ _ hX.blk];rfl
     have c2:wr.cell? ⟨w.heap.size + 1,2,none⟩=some (.slice ap es.length cp):=by rw [cell_of_row wr _ _ _ _ _ hX.blk];rfl
     have q0:wr.cell? ⟨w.heap.size,0,none⟩=some (.int .i64 0)∧wr.cell? ⟨w.heap.size,1,none⟩=some (.slice none 0 0)∧wr.cell? ⟨w.heap.size,2,none⟩=some (.slice none 0 0):=by refine ⟨?_,?_,?_⟩ <;> (rw [cell_of_row wr _ _ _ _ _ hX.res];rfl)
     have qf:∀ i,wr.frozen? ⟨w.heap.size,i,none⟩=false:=fun i=>by simp [World.frozen?,hX.res]
     have HXX:=hidIt hX
     have HTT:Hid (xs2=hs.flatMap HE.cs ++ mkE es.length r):=by
      obtain rfl:k=r:=by omega
      have hxl:=hX.hd.all.1
      rw [List.take_of_length_le (by have:=HNN.out;omega)] at hT
      exact hT
     clear hX hT
     go_wp2_with fail
     obtain ⟨p1,p2⟩:=put3 HXX.out.res (.int .i64 (r:Nat)) (.slice (some ⟨g,0,none⟩) N N) (.slice ap es.length cp)
     generalize hwz:World.setCell (World.setCell (World.setCell wr _ _) _ _) _ _=z at *
     have r0:z.cell? ⟨w.heap.size,0,none⟩=some (.int .i64 (r:Nat))∧z.cell? ⟨w.heap.size,1,none⟩=some (.slice (some ⟨g,0,none⟩) N N)∧z.cell? ⟨w.heap.size,2,none⟩=some (.slice ap es.length cp):=by refine ⟨?_,?_,?_⟩ <;> (rw [cell_of_row z _ _ _ _ _ p1];rfl)
     have F:Hid (∃ (r' g':Nat) (ap':Option Addr) (cp':Nat),Ending.returned (.agg #[.int .i64 (r:Nat),.slice (some ⟨g,0,none⟩) N N,.slice ap es.length cp])=.returned (.agg #[.int .i64 (r':Nat),.slice (some ⟨g',0,none⟩) (es.length + r') (es.length + r'),.slice ap' es.length cp'])∧Hid (∃ hs:List HE,Hd z w.heap.size r' g' (es.length + r') (.slice ap' es.length cp') hs (hs.flatMap HE.cs ++ mkE es.length r')∧hs.map HE.e=es∧(r'=2∨r'=100))∧Below w.heap.size w z):=by
      have hst:∀ T,T≠157→∀ b,Typ T wr b→z.heap[b]?=wr.heap[b]?:=fun T hT b hb=>p2.same b hb.lt (fun e=>hT (by subst e;exact hb.uniq ⟨_,HXX.out.res⟩))
      have hh:=HXX.out.hd.same (hst _ (by decide)) (hst _ (by decide)) (hst _ (by decide))
      have hes:=HXX.out.es
      rw [List.take_length] at hes
      rw [HTT.out,HNN.out] at hh
      refine ⟨r,g,ap,cp,by rw [HNN.out],⟨hs,hh,hes,HR.out⟩,?_⟩
      have h4:=HXX.out.bel
      exact h4.trans (p2.below h4.size (fun k hk=>Nat.le_of_eq hk.symm))
     exact bodyPost_ret (v:=.agg #[.int .i64 (r:Nat),.slice (some ⟨g,0,none⟩) N N,.slice ap es.length cp]) (by simp [results,Tryz.results80,go_sem,r0]) rfl F.out
end Go.Proofs.YtdkpkncolpapoaaGreat.P

namespace Go.Proofs.YtdkpkncolpapoaaGreat.P
open Go.RowKit
theorem Tx.typ0 {enc lim:Int} {L:List Int} {w:World} {t:Nat} {ps:List PG} (h:Tx enc lim L w t ps):Typ 116 w t:=by
 obtain ⟨_,_,h1,_⟩:=h.ex
 exact ⟨_,h1⟩
theorem Tx.same {enc lim:Int} {L:List Int} {w w':World} {t:Nat} {ps:List PG} (h:Tx enc lim L w t ps) (h1:∀ b,Typ 5 w b→w'.heap[b]?=w.heap[b]?) (h2:∀ b,Typ 182 w b→w'.heap[b]?=w.heap[b]?) (h3:∀ b,Typ 116 w b→w'.heap[b]?=w.heap[b]?):Tx enc lim L w' t ps:=by
 obtain ⟨lv,u,k1,k2,k3⟩:=h.ex
 exact ⟨⟨lv,u,(h3 t ⟨_,k1⟩).trans k1,k2.same h1,k3.same h2⟩,h.pc.same h1,h.en,h.by',h.ll,h.l0,h.lm,h.sz⟩
theorem Sn.same {enc:Int} {L:List Int} {w w':World} {s t:Nat} {ps:List PG} (h:Sn enc L w s t ps) (h1:∀ b,Typ 5 w b→w'.heap[b]?=w.heap[b]?) (h2:∀ b,Typ 182 w b→w'.heap[b]?=w.heap[b]?) (h3:∀ b,Typ 150 w b→w'.heap[b]?=w.heap[b]?):Sn enc L w' s t ps:=by
 obtain ⟨u,k1,k2⟩:=h.ex
 exact ⟨⟨u,(h3 s ⟨_,k1⟩).trans k1,k2.same h2⟩,h.pc.same h1,h.sz⟩
structure Bnd (es:List Ed):Prop where
 each:∀ e ∈ es,e.2.2.length * 8≤140737488351232
 len:es.length * 40≤140737488351232
theorem puts_bnd:∀ (es:List Ed) (B:Nat),(∀ e ∈ es,e.2.2.length≤B)→(puts es).length≤es.length * B:=by
 intro es
 induction es with
 | nil=>intro B _;simp [puts]
 | cons e es ih =>
   intro B h
   have h1:=ih B (fun x hx=>h x (List.mem_cons_of_mem _ hx))
   have h2:=h e (List.mem_cons_self ..)
   have e1:puts (e :: es)=e.2.2 ++ puts es:=by simp [puts]
   rw [e1,List.length_append,List.length_cons,Nat.add_mul,Nat.one_mul]
   omega
theorem Bnd.puts {es:List Ed} (h:Bnd es):es.length≤70000→(puts es).length≤2305843009213693951:=fun h7=>by
 have h1:=puts_bnd es 17592186044416 (fun e he=>by have:=h.each e he;omega)
 have h2:es.length * 17592186044416≤70000 * 17592186044416:=Nat.mul_le_mul_right _ h7
 omega
def CgR (enc lim:Int) (L:List Int) (t:Nat) (ps:List PG) (es:List Ed) (w:World) (e:Ending) (w':World):Prop :=
 e=.returned (.tuple #[.int .i64 (chA enc lim (sh enc ps) es),.bool true])∧∃ ps',Tx enc lim L w' t ps'∧sh enc ps'=chT enc lim (sh enc ps) es∧Kps (fun k=>k=t) w w'
set_option maxRecDepth 100000 in
set_option maxHeartbeats 4000000 in
theorem written_nil (enc lim:Int) (L:List Int) (w00 w:World) (t:Nat) (ps:List PG) (v:Value) (es:List Ed) (h:Tx enc lim L w t ps) (hE0:EdR w00 v es) (hb00:Below w00.heap.size w00 w) (ht00:w00.heap.size≤t) (hl:Bnd es) :
  Calls Tryz.prog 45 #[.pointer (some ⟨t,0,none⟩),.pointer none,v] w fun e w'=>CgR enc lim L t ps es w e w':=by
 have hE:=hE0.ext hb00
 have HA:=hidIt (hand_nil v es w hE hl.each hl.len)
 have HT:=hidIt h
 have HE0:=hidIt hE0
 have HB00:=hidIt hb00
 have HL:=hidIt hl
 have hn:es.length≤17592186044416:=by have:=hl.len;omega
 have htl:t < w.heap.size:=h.typ0.lt
 obtain ⟨ao,cap,rfl,hc1,hc2,_⟩:=id hE
 clear h hE hl hE0 hb00
 go_enter Tryz.func45,Tryz.ntmps45
 go_upto_region 2 with (go_at_call 80;refine HA.out.mono ?_;rintro e w1 ⟨r,g,ap,cp,rfl,HH,hb1⟩;have HB1:=hidIt hb1;clear hb1;(try dsimp only))
 obtain ⟨hs,hHd,hes,hr⟩:=HH.out
 have hr2:2≤r∧r≤100:=by omega
 have hln:hs.length=es.length:=by rw [← hes,List.length_map]
 obtain ⟨w2,hw2,k2,hb2⟩:∃ w2,w2=w1.alloc (.cells #[.int .i64 (r:Nat),.slice (some ⟨g,0,none⟩) (es.length + r) (es.length + r),.slice ap es.length cp] 157)∧w2.heap[w1.heap.size]?=some (.cells #[.int .i64 (r:Nat),.slice (some ⟨g,0,none⟩) (es.length + r) (es.length + r),.slice ap es.length cp] 157 (0,0))∧Below w1.heap.size w1 w2:=⟨_,rfl,heap_alloc_new _ _,ext_alloc (Below.refl _ _) _⟩
 have HH2:=hidIt (hHd.ext hb2)
 have HB2:=hidIt (ext_trans HB1.out hb2)
 have HK2:=hidIt k2
 have HES:=hidIt hes
 have HLN:=hidIt hln
 have HHV:Hid (∀ w':World,w'.heap[w1.heap.size]?=w2.heap[w1.heap.size]?→w'.cell? ⟨w1.heap.size,0,none⟩=some (.int .i64 (r:Nat))∧w'.cell? ⟨w1.heap.size,1,none⟩=some (.slice (some ⟨g,0,none⟩) (es.length + r) (es.length + r))∧w'.cell? ⟨w1.heap.size,2,none⟩=some (.slice ap es.length cp)):=fun w' hq=>by
  have e:=hq.trans HK2.out
  refine ⟨?_,?_,?_⟩ <;> (rw [cell_of_row w' _ _ _ _ _ e];rfl)
 have h1l:w1.heap.size < w2.heap.size:=(Array.getElem?_eq_some_iff.1 k2).1
 rw [← hw2]
 clear hw2 k2 hb2 hHd hes hln HH HA
 have ED:=hidIt (hEdits_any r g (es.length + r) ap es.length cp w2 (by omega) (by omega) (by omega))
 rw [Nat.add_sub_cancel] at ED
 have CH:Hid (∀ w',Below w2.heap.size w2 w'→Calls Tryz.prog 19 #[.pointer (some ⟨t,0,none⟩),.slice (some ⟨g,0,none⟩) es.length (es.length + r)] w' fun e w''=>e=.returned (.int .i64 (chA enc lim (sh enc ps) es))∧Hid (∃ ps',Tx enc lim L w'' t ps'∧sh enc ps'=chT enc lim (sh enc ps) es∧Kps (fun k=>k=t) w' w'')):=fun w' hb=>by
  have h1:=(HH2.out.ext hb).edr (by have:=HLN.out;omega) (by omega)
  rw [HES.out,HLN.out] at h1
  exact (Change_any enc lim L w' t ps _ es (HT.out.ext (ext_trans HB2.out hb)) h1 HL.out.puts).mono fun e w'' h=>h
 obtain ⟨c0,c1,c2⟩:=HHV.out w2 rfl
 go_upto_region 3 with (first
  | (go_at_call 81;refine ED.out.mono ?_;rintro e w3 ⟨rfl,hb3⟩;have HB3:=hidIt hb3;have CH3:=hidIt (CH.out w3 hb3);clear hb3 c0 c1 c2;(try dsimp only))
  | (go_at_call 19;refine CH3.out.mono ?_;rintro e w4 ⟨rfl,HC4⟩;(try dsimp only)))
 obtain ⟨ps',hT4,hsh4,hk4⟩:=HC4.out
 have HTY:=hidIt (show Typ 116 w3 t from (HT.out.ext (ext_trans HB2.out HB3.out)).typ0)
 have hst4:∀ T,T≠116→∀ b,Typ T w3 b→w4.heap[b]?=w3.heap[b]?:=fun T hT b hb=>hk4.same b hb.lt (fun e=>hT (by subst e;exact hb.uniq HTY.out))
 have HH4:=hidIt ((HH2.out.ext HB3.out).same (hst4 _ (by decide)) (hst4 _ (by decide)) (hst4 _ (by decide)))
 have hbk4:w4.heap[w1.heap.size]?=w2.heap[w1.heap.size]?:=by
  have e3:=HB3.out.block _ h1l
  rw [hst4 157 (by decide) _ ⟨_,e3.trans HK2.out⟩,e3]
 have hB4:Below w00.heap.size w00 w4:=by
  have h3:=ext_trans HB00.out (ext_trans HB2.out HB3.out)
  exact h3.trans (hk4.below h3.size (fun k hk=>by omega))
 have WH:=hidIt (whole_any w.heap.size r g ap cp hs es (.slice ao es.length cap) w4 HH4.out HES.out (HE0.out.ext hB4) hr2 hn (fun e he=>by have:=HL.out.each e he;omega))
 have HT4:=hidIt hT4
 have HS4:=hidIt hsh4
 have HKK4:Hid (Kps (fun k=>k=t) w w4):=(Kps.of_below (fun k=>k=t) (ext_trans HB2.out HB3.out)).trans hk4 fun _ _ e=>e
 have HBK4:=hidIt hbk4
 obtain ⟨c0,c1,c2⟩:=HHV.out w4 hbk4
 clear hT4 hsh4 hk4 hst4 hbk4 hB4 HC4
 go_upto_region 4 with (go_at_call 82;refine WH.out.mono ?_;rintro e w5 ⟨rfl,hb5⟩;have HB5:=hidIt hb5;clear hb5 c0 c1 c2;(try dsimp only))
 have h1l4:w1.heap.size < w4.heap.size:=(Array.getElem?_eq_some_iff.1 (HBK4.out.trans HK2.out)).1
 obtain ⟨c0,c1,c2⟩:=HHV.out w5 ((HB5.out.block _ h1l4).trans HBK4.out)
 have hH5:=HH4.out.ext HB5.out
 have hS5:=hH5.sp
 have HSP:Hid (Calls Tryz.prog 83 #[.agg #[.int .i64 (r:Nat),.slice (some ⟨g,0,none⟩) (es.length + r) (es.length + r),.slice ap es.length cp]] w5 fun e w'=>(∃ v,e=.returned v)∧Kps (fun k=>(∃ y ∈ hs,k=y.b)∨k=g) w5 w'):=by
  have:=spoil_any w.heap.size r g (es.length + r) ap cp hs w5 (by rw [HLN.out];exact hS5) (by omega) (by have:=HLN.out;omega) (fun x hx=>(hH5.each x hx).ln)
  rwa [HLN.out] at this
 have HS5:=hidIt hS5
 have HH5:=hidIt hH5
 clear hS5 hH5
 go_wp2_with (go_at_call 83;refine HSP.out.mono ?_;rintro e w6 ⟨⟨u,rfl⟩,hk6⟩;have HK6:=hidIt hk6;clear hk6 c0 c1 c2;(try dsimp only))
 go_ret2
 have hst6:∀ T,T≠3→T≠30→∀ b,Typ T w5 b→w6.heap[b]?=w5.heap[b]?:=fun T h1 h2 b hb=>HK6.out.same b hb.lt (fun e=>by
  rcases e with ⟨y,hy,rfl⟩ | rfl
  ·obtain ⟨ys,hys⟩:=HS5.out.each y hy
   exact h1 (hb.uniq (HE.typ hys))
  ·exact h2 (hb.uniq (own_typ HH5.out.all)))
 refine ⟨rfl,ps',(HT4.out.ext HB5.out).same (hst6 _ (by decide) (by decide)) (hst6 _ (by decide) (by decide)) (hst6 _ (by decide) (by decide)),HS4.out,?_⟩
 refine (HKK4.out.trans (Kps.of_below (fun k=>k=t) HB5.out) fun _ _ e=>e).trans HK6.out fun i hi e=>?_
 rcases e with ⟨y,hy,rfl⟩ | e
 ·have:=(HH5.out.each y hy).ge
  omega
 ·have:w.heap.size≤g:=(HH5.out.all.lt g rfl).1
  omega
set_option maxRecDepth 100000 in
theorem changed_any (enc lim:Int) (L:List Int) (w00 w:World) (t:Nat) (ps:List PG) (v:Value) (es:List Ed) (h:Tx enc lim L w t ps) (hE0:EdR w00 v es) (hb00:Below w00.heap.size w00 w) (ht00:w00.heap.size≤t) (hl:Bnd es) :
  Calls Tryz.prog 30 #[.pointer (some ⟨t,0,none⟩),v] w fun e w'=>CgR enc lim L t ps es w e w':=by
 have WR:=hidIt (written_nil enc lim L w00 w t ps v es h hE0 hb00 ht00 hl)
 obtain ⟨ao,cap,rfl,_⟩:=id hE0
 clear h hE0 hb00
 go_enter Tryz.func30,Tryz.ntmps30
 go_wp2_with (go_at_call 45;refine WR.out.mono ?_;rintro e w1 ⟨rfl,hc1⟩;have HC1:=hidIt hc1;clear hc1;(try dsimp only))
 go_ret2
 exact ⟨rfl,HC1.out⟩
end Go.Proofs.YtdkpkncolpapoaaGreat.P
