import Derived.Test.YtpfgoobmkkmidaaGreatJ00
import Derived.Test.YtpfgoobmkkmidaaGreatJ38
import Derived.Test.YtpfgoobmkkmidaaGreatJ37
import Derived.Test.YtpfgoobmkkmidaaGreatJ40
namespace Go.Proofs.YtpfgoobmkkmidaaGreat
open Go.ChangeShapes Go.WideShapes Go.ChangeAt Go.RowKit
theorem cSl:Tryz.prog.cellsOf 27=1:=by kernel_rfl
theorem cSb:Tryz.prog.cellsOf 22=1:=by kernel_rfl
theorem cIn:Tryz.prog.cellsOf 3=1:=by kernel_rfl
theorem cOp:Tryz.prog.cellsOf 38=5:=by kernel_rfl
theorem cSt:Tryz.prog.cellsOf 24=2:=by kernel_rfl
theorem weights_elem {H:Type} {P:Program} {e:TypeId}:∀ {l:List (DataW H)} {d:DataW H},d ∈ l→∀ n ∈ d.weights P e,n ∈ DataW.weightsAll P e l
 | x :: l,d,h,n,hn=>by
   simp only [DataW.weightsAll,List.mem_append]
   rcases List.mem_cons.1 h with rfl | h
   ·exact Or.inl hn
   ·exact Or.inr (weights_elem h n hn)
theorem weights_slice {H:Type} {P:Program} {t e:TypeId} {el sp:List (DataW H)} {d:DataW H} (hu:P.underlying t=some (.slice e)) (h:d ∈ el):∀ n ∈ d.weights P e,n ∈ (DataW.slice el sp).weights P t:=by
 intro n hn
 simp only [DataW.weights,hu,List.mem_cons,List.mem_append]
 exact Or.inr (Or.inl (weights_elem h n hn))
theorem weights_part {H:Type} {P:Program} {t:TypeId} {fs:Array Field} {parts:List (DataW H)} {d:DataW H} (hu:P.underlying t=some (.struct fs)) {j:Nat} {f:Field} (hf:fs[j]?=some f) (hd:parts[j]?=some d):∀ n ∈ d.weights P f.type,n ∈ (DataW.agg parts).weights P t:=by
 intro n hn
 simp only [DataW.weights,hu]
 exact DataW.weights_mem_each (j:=j) (by simp [hf]) hd n hn
theorem inner_of {H:Type} {enc:TypeId × Value→H} {W:World} {fuel:Nat} {c:Value} {d:DataW H} {p:List MemPlace}
  (h:DataW.trod enc Tryz.prog W 0 (fun _=>true) true fuel 27 [c]=some (d,p)) :
  ∃ ao cap zs,c=.slice ao zs.length cap∧Rd .i64 W (.slice ao zs.length cap) zs∧(zs=[]∨∃ el sp,d=.slice el sp∧el.length=zs.length):=by
 have hs:∃ ao len cap,c=.slice ao len cap:=by
  rcases DataW.trod_slice Tryz.underlying27 h with ⟨hcs,_⟩ | ⟨x,l,k,elems,rest,n,_,hcs,_⟩
  ·exact ⟨none,0,0,by simpa using hcs⟩
  ·exact ⟨some x,l,k,by simpa using hcs⟩
 obtain ⟨ao,len,cap,rfl⟩:=hs
 obtain ⟨zs,hr,_,hd⟩:=rd_of (enc:=enc) (d:=d) (p:=p) Tryz.underlying27 Tryz.underlying3 (by kernel_rfl) ⟨fuel,by simpa [Value.cells] using h⟩
 obtain ⟨ao',cap',hv,r1,r2,r3⟩:=id hr
 simp only [Value.slice.injEq] at hv
 obtain ⟨rfl,rfl,rfl⟩:=hv
 exact ⟨ao,cap,zs,rfl,hr,hd⟩
theorem inner_bound {H:Type} {zs:List Int} {d:DataW H} (hd:zs=[]∨∃ el sp,d=DataW.slice el sp∧el.length=zs.length) (hw:∀ n ∈ d.weights Tryz.prog 27,n≤reachBytes):zs.length * 8≤140737488351232:=by
 rcases hd with rfl | ⟨el,sp,rfl,hel⟩
 ·simp
 ·have:=hw ((el.length + sp.length) * Tryz.prog.bytesOf 3) (by simp [DataW.weights,Tryz.underlying27])
  rw [bytesK_i64] at this
  simp only [reachBytes] at this
  omega
set_option maxRecDepth 100000 in
theorem start_of {H:Type} {enc:TypeId × Value→H} {W:World} {base:Nat} {v:Value} {d:DataW H} {p:List MemPlace} (hv:Value.okWide Tryz.prog W .any base 24 v)
  (h:DataW.Trod enc Tryz.prog W 0 (fun _=>true) true 24 v d p):∃ x ad nd cd D,v=.agg #[.int .i64 x,.slice ad nd cd]∧Rd .u8 W (.slice ad nd cd) D∧Byt D:=by
 obtain ⟨cs,rfl,hs⟩:=okWide_struct Tryz.underlying24 hv
 obtain ⟨fuel,hf⟩:=h
 have hc:(Value.agg cs).cells=cs:=by simp [Value.cells]
 rw [hc] at hf
 obtain ⟨xs,n,rfl,hx,hl,hxl,hall⟩:=DataW.trod_struct Tryz.underlying24 hf
 match xs,hxl with
 | [x0,x1],_ =>
   obtain ⟨k0,e0,r0,w0⟩:=DataW.trod_int Tryz.underlying3 (hall 0 _ rfl)
   have h1:=hall 1 _ rfl
   have e0':(cs.toList.drop 0).take (Tryz.prog.cellsOf 3)=[.int .i64 k0]:=e0
   have h1':DataW.trod enc Tryz.prog W 0 (fun _=>true) true n 22 ((cs.toList.drop 1).take (Tryz.prog.cellsOf 22))=some x1:=h1
   rw [cSt] at hl
   rw [cIn] at e0'
   rw [cSb] at h1'
   obtain ⟨l⟩:=cs
   match l,hl with
   | [c0,c1],_ =>
     simp at e0'
     subst e0'
     simp only [List.drop_succ_cons,List.drop_zero,List.take_succ_cons,List.take_zero] at h1'
     have hsl:∃ ao len cap,c1=.slice ao len cap:=by
      rcases DataW.trod_slice Tryz.underlying22 h1' with ⟨hcs,_⟩ | ⟨x,l,k,elems,rest,n,_,hcs,_⟩
      ·exact ⟨none,0,0,by simpa using hcs⟩
      ·exact ⟨some x,l,k,by simpa using hcs⟩
     obtain ⟨ao,len,cap,rfl⟩:=hsl
     obtain ⟨zs,hr,hw,_⟩:=rd_of (enc:=enc) (d:=x1.1) (p:=x1.2) Tryz.underlying22 Tryz.underlying5 (by kernel_rfl) ⟨n,by simpa [Value.cells] using h1'⟩
     exact ⟨k0,ao,len,cap,zs,rfl,hr,byt_of hw⟩
structure OpAt (w:World) (f:Nat→Option Value) (o:P.Opv):Prop where
 c0:f 0=some (.int .i64 o.who)
 c1:f 1=some (.int .i64 o.k)
 c2:f 2=some (.int .i64 o.a)
 c3:f 3=some (.int .i64 o.b)
 c4:∃ pv,f 4=some pv∧Rd .i64 w pv o.put
 ok:o.Ok
set_option maxRecDepth 100000 in
theorem op_cells {H:Type} {enc:TypeId × Value→H} {w:World} {fuel:Nat} {cs:List Value} {d:DataW H} {p:List MemPlace}
  (h:DataW.trod enc Tryz.prog w 0 (fun _=>true) true fuel 38 cs=some (d,p)) (hw:∀ n ∈ d.weights Tryz.prog 38,n≤reachBytes) :
  ∃ o:P.Opv,OpAt w (fun i=>cs[i]?) o:=by
 obtain ⟨xs,n,rfl,hx,hl,hxl,hall⟩:=DataW.trod_struct Tryz.underlying38 h
 match xs,hxl with
 | [x0,x1,x2,x3,x4],_ =>
   obtain ⟨k0,e0,r0,w0⟩:=DataW.trod_int Tryz.underlying3 (hall 0 _ rfl)
   obtain ⟨k1,e1,r1,w1⟩:=DataW.trod_int Tryz.underlying3 (hall 1 _ rfl)
   obtain ⟨k2,e2,r2,w2⟩:=DataW.trod_int Tryz.underlying3 (hall 2 _ rfl)
   obtain ⟨k3,e3,r3,w3⟩:=DataW.trod_int Tryz.underlying3 (hall 3 _ rfl)
   have h4:=hall 4 _ rfl
   have e0':(cs.drop 0).take (Tryz.prog.cellsOf 3)=[.int .i64 k0]:=e0
   have e1':(cs.drop 1).take (Tryz.prog.cellsOf 3)=[.int .i64 k1]:=e1
   have e2':(cs.drop 2).take (Tryz.prog.cellsOf 3)=[.int .i64 k2]:=e2
   have e3':(cs.drop 3).take (Tryz.prog.cellsOf 3)=[.int .i64 k3]:=e3
   have h4':DataW.trod enc Tryz.prog w 0 (fun _=>true) true n 27 ((cs.drop 4).take (Tryz.prog.cellsOf 27))=some x4:=h4
   rw [cOp] at hl
   rw [cIn] at e0' e1' e2' e3'
   rw [cSl] at h4'
   match cs,hl with
   | [c0,c1,c2,c3,c4],_ =>
     simp at e0' e1' e2' e3'
     subst e0';subst e1';subst e2';subst e3'
     simp only [List.drop_succ_cons,List.drop_zero,List.take_succ_cons,List.take_zero] at h4'
     obtain ⟨ai,ci,zs,rfl,hr,hd⟩:=inner_of (d:=x4.1) (p:=x4.2) h4'
     have q2:=bounds_i64 w2
     have q3:=bounds_i64 w3
     refine ⟨⟨k0,k1,k2,k3,zs⟩,rfl,rfl,rfl,rfl,⟨_,rfl,hr⟩,⟨by dsimp only;omega,by dsimp only;omega,inner_bound hd ?_⟩⟩
     intro m hm
     refine hw m ?_
     obtain ⟨rfl,_⟩:=Prod.mk.inj hx
     exact weights_part (t:=38) (j:=4) Tryz.underlying38 rfl (d:=x4.1) rfl m hm
set_option maxRecDepth 100000 in
theorem ops_of {H:Type} {enc:TypeId × Value→H} {W:World} {a0:Option Addr} {len0 cap0:Nat} {d:DataW H} {p:List MemPlace}
  (h:DataW.Trod enc Tryz.prog W 0 (fun _=>true) true 25 (.slice a0 len0 cap0) d p) (hw:∀ n ∈ d.weights Tryz.prog 25,n≤reachBytes) :
  ∃ os,P.RdO W (.slice a0 len0 cap0) os:=by
 obtain ⟨fuel,hf⟩:=h
 rcases DataW.trod_slice Tryz.underlying25 hf with ⟨hcs,_⟩ | ⟨x,l,c,elems,rest,n,_,hcs,hx,hb,hl,hm,hlen,hel,_,_⟩
 ·simp [Value.cells] at hcs
  obtain ⟨rfl,rfl,rfl⟩:=hcs
  exact ⟨[],none,0,rfl,Nat.le_refl _,by omega,(fun o ho=>by cases ho),fun h=>absurd rfl h⟩
 ·simp [Value.cells] at hcs
  obtain ⟨rfl,rfl,rfl⟩:=hcs
  rw [cOp] at hel
  obtain ⟨rfl,_⟩:=Prod.mk.inj hx
  obtain ⟨b,off,spot⟩:=x
  have each:∀ i,∃ o:P.Opv,i < len0→OpAt W (fun j=>W.cell? (((⟨b,off,spot⟩:Addr).add (i * 5)).add j)) o:=by
   intro i
   by_cases hi:i < len0
   ·have hi':i < elems.length:=by omega
    have:=hel i hi
    rw [List.getElem?_eq_getElem hi',Option.bind_eq_some_iff] at this
    obtain ⟨cs,hcs,hy⟩:=this
    obtain ⟨o,ho⟩:=op_cells (d:=elems[i].1) (p:=elems[i].2) hy (fun m hm=>hw m (weights_slice Tryz.underlying25 (List.mem_map.2 ⟨elems[i],List.getElem_mem hi',rfl⟩) m hm))
    have hcell:=(World.cells?_some hcs).2.2
    obtain ⟨pv,h1,h2⟩:=ho.c4
    exact ⟨o,fun _=>⟨(hcell 0 (by omega)).trans ho.c0,(hcell 1 (by omega)).trans ho.c1,(hcell 2 (by omega)).trans ho.c2,(hcell 3 (by omega)).trans ho.c3,⟨pv,(hcell 4 (by omega)).trans h1,h2⟩,ho.ok⟩⟩
   ·exact ⟨⟨0,0,0,0,[]⟩,fun h=>absurd h hi⟩
  obtain ⟨f,hf'⟩:=Classical.skolem.1 each
  have hlr:((List.range len0).map f).length=len0:=by simp
  refine ⟨(List.range len0).map f,some ⟨b,off,spot⟩,cap0,by rw [hlr],by rw [hlr];exact hl,by unfold maxLen at hm;exact hm,fun o ho=>?_,fun hn=>?_⟩
  ·rw [List.mem_map] at ho
   obtain ⟨i,hi,rfl⟩:=ho
   exact (hf' i (List.mem_range.1 hi)).ok
  ·have hpos:0 < len0:=by rw [← hlr];exact List.length_pos_iff.2 hn
   have hs:spot=none:=by simpa [Addr.add] using World.cell?_spot (hf' 0 hpos).c0
   subst hs
   refine ⟨b,off,rfl,World.block_lt_of_cell? W _ (by simpa [Addr.add] using (hf' 0 hpos).c0),fun i e hie=>?_⟩
   have hi:i < len0:=by have:=(List.getElem?_eq_some_iff.1 hie).1;rwa [hlr] at this
   have e1:e=f i:=by rw [List.getElem?_map,List.getElem?_range hi] at hie;simpa using hie.symm
   subst e1
   have:=hf' i hi
   simp only [Addr.add_lit] at this
   exact ⟨this.c0,this.c1,this.c2,this.c3,this.c4⟩
end Go.Proofs.YtpfgoobmkkmidaaGreat

namespace Go.Proofs.YtpfgoobmkkmidaaGreat.P
open Go.RowKit
theorem cells3x {w:World} {b:Nat} {T:TypeId} {v0 v1 v2:Value} (h:w.heap[b]?=some (.cells #[v0,v1,v2] T (0,0))):b < w.heap.size∧w.cell? ⟨b,0,none⟩=some v0∧w.cell? ⟨b,1,none⟩=some v1∧w.cell? ⟨b,2,none⟩=some v2∧(∀ i,w.frozen? ⟨b,i,none⟩=false):=by
 refine ⟨(Array.getElem?_eq_some_iff.1 h).1,?_,?_,?_,fun i=>by simp [World.frozen?,h]⟩ <;> (rw [cell_of_row _ _ _ _ _ _ h];rfl)
theorem ownI_ge {w:World} {base:Nat} {v:Value} {zs:List Int} (h:OwnI w base v zs) {g:Nat} (hg:v.ownBlock=some g):base≤g:=by
 rcases h.2 with ⟨rfl,_⟩ | ⟨g',cap,cur,rfl,h0,hc,_⟩
 ·cases hg
 ·cases hg
  exact h0
structure Rdr (enc:Int) (A:List Int) (w:World) (r t s:Nat) (H:Nat→Prop):Prop where
 ex:∃ v hand,w.heap[r]?=some (.cells #[.pointer (some ⟨t,0,none⟩),.int .i64 (s:Nat),v] 115 (0,0))∧OwnI w 0 v hand∧hand=(A.drop s).take hand.length∧∀ g,v.ownBlock=some g→H g
 tz:Tz enc w t A
theorem Rdr.typ {enc:Int} {A:List Int} {w:World} {r t s:Nat} {H:Nat→Prop} (h:Rdr enc A w r t s H):Typ 115 w r:=by obtain ⟨_,_,h1,_⟩:=h.ex;exact ⟨_,h1⟩
theorem Rdr.ext {enc:Int} {A:List Int} {w w':World} {r t s:Nat} {H:Nat→Prop} (h:Rdr enc A w r t s H) (hb:Below w.heap.size w w'):Rdr enc A w' r t s H:=by
 obtain ⟨v,hand,h1,h2,h3⟩:=h.ex
 exact ⟨⟨v,hand,(hb.block r (Array.getElem?_eq_some_iff.1 h1).1).trans h1,h2.ext hb,h3⟩,h.tz.ext hb⟩
theorem sub_512 (A:List Int) (p:Nat):sub A p ((p:Int) + 512)=(A.drop p).take 512:=by
 unfold sub clp
 by_cases h:p < A.length
 ·rw [if_neg (by omega)]
  simp only
  rw [show (max (p:Int) 0).toNat=p by omega,show (min ((p:Int) + 512) (A.length:Int)).toNat - p=min 512 (A.length - p) by omega]
  rw [← List.length_drop,List.take_eq_take_min (i:=512)]
 ·rw [if_pos (by omega),List.drop_eq_nil_of_le (show A.length≤p by omega)]
  simp
def aV (A:List Int) (p:Nat):Int:=(A[p]?).getD 0
def aB (A:List Int) (p:Nat):Bool:=(A[p]?).isSome
set_option maxRecDepth 100000 in
set_option maxHeartbeats 8000000 in
theorem atom_any (enc:Int) (A:List Int) (w:World) (r t s p:Nat) {H:Nat→Prop} (hH:∀ k,w.heap.size≤k→H k) (h:Rdr enc A w r t s H) (hs:s≤p) (hp:p≤1000000):Calls Tryz.prog 99 #[.pointer (some ⟨r,0,none⟩),.int .i64 (p:Nat)] w fun e w'=>e=.returned (.tuple #[.int .i64 (aV A p),.bool (aB A p)])∧Hid (∃ s',s'≤p∧Rdr enc A w' r t s' H)∧Kps (fun k=>k=r) w w':=by
 obtain ⟨v,hand,hg,ho,hh,_⟩:=h.ex
 have HHH:=hidIt hH
 clear hH
 obtain ⟨ah,ch,hv⟩:=ho.form
 have hlh:hand.length≤A.length:=by rw [hh,List.length_take,List.length_drop];omega
 have hlA:=h.tz.len
 obtain ⟨n,hn⟩:∃ n,n=hand.length:=⟨_,rfl⟩
 rw [← hn] at hv
 subst hv
 have HG:=hidIt hg
 have HO:=hidIt ho
 have HH:=hidIt hh
 have HT:=hidIt h
 have HN:=hidIt hn
 obtain ⟨_,c0,c1,c2,fz⟩:=cells3x hg
 have hrt:r≠t:=fun e=>by subst e;exact absurd (Typ.uniq h.typ h.tz.typ) (by decide)
 have hn9:n≤65536:=by omega
 have hwn:IntKind.i64.wrap ((s:Int) + (n:Int))=((s + n:Nat):Int):=by rw [IntKind.wrap_i64];omega
 clear hg ho hh h hlh hn
 by_cases hin:p < s + n
 ·have h3:=congrArg (fun l=>l[p - s]?) HH.out
  simp only [List.getElem?_take,List.getElem?_drop] at h3
  rw [if_pos (show p - s < hand.length by rw [← HN.out];omega),show s + (p - s)=p by omega] at h3
  obtain ⟨x,hxh⟩:∃ x,hand[p - s]?=some x:=⟨_,List.getElem?_eq_getElem (by rw [← HN.out];omega)⟩
  have hx:A[p]?=some x:=by rw [← h3];exact hxh
  have HR:=hidIt (show aV A p=x∧aB A p=true from ⟨by unfold aV;rw [hx];rfl,by unfold aB;rw [hx];rfl⟩)
  obtain ⟨b,o,hbo,hbl,cx,_⟩:=rd_at HO.out.rdi (p - s) (List.getElem?_eq_some_iff.1 hxh).1
  rw [hxh,Option.getD_some] at cx
  subst hbo
  have hlt:¬ (((s + n:Nat):Int)≤(p:Int)):=by omega
  have hlt':¬ (s + n≤p):=by omega
  have hnz:¬ ((n:Int)=0):=by omega
  have hnz':¬ (n=0):=by omega
  have hnb:((n:Int) == 0)=false:=by simp;omega
  have hws:IntKind.i64.wrap ((p:Int) - (s:Int))=((p - s:Nat):Int):=by rw [IntKind.wrap_i64];omega
  have hps:p - s < n:=by omega
  clear hx hxh hin h3
  go_enter Tryz.func99,Tryz.ntmps99
  go_upto_region 1 with fail
  refine wp_region_held_drew (S:=fun w''=>w''.cell? ⟨r,1,none⟩=some (.int .i64 (s:Nat))∧w''.cell? ⟨r,2,none⟩=some (.slice (some ⟨b,o,none⟩) n ch)∧w''.cell? ⟨b,o + (p - s),none⟩=some (.int .i64 x)) (by kernel_rfl) (⟨c1,c2,cx⟩) (fun hHeld=>?_)
  refine tkH (v:=?_) 0 rfl ?_ ?_;rotate_left 1
  ·intro wq hSw;(try dsimp only at hSw);go_simp;try (with_reducible rfl)
  try simp only [Act.put,sA1,sA3,sA4,sA5,sA6]
  refine tkH (v:=?_) 1 rfl ?_ ?_;rotate_left 1
  ·intro wq hSw;(try dsimp only at hSw);go_simp;try (with_reducible rfl)
  try simp only [Act.put,sA1,sA2,sA3,sA4,sA5,sA6]
  refine tkH (v:=?_) 2 rfl ?_ ?_;rotate_left 1
  ·intro wq hSw;(try dsimp only at hSw);go_simp;try (with_reducible rfl)
  try simp only [Act.put,sA1,sA2,sA3,sA4,sA5,sA6]
  refine tkH (v:=?_) 3 rfl ?_ ?_;rotate_left 1
  ·intro wq hSw;(try dsimp only at hSw);go_simp;try (with_reducible rfl)
  try simp only [Act.put,sA1,sA2,sA3,sA4,sA5,sA6]
  refine tkH (v:=?_) 4 rfl ?_ ?_;rotate_left 1
  ·intro wq hSw;(try dsimp only at hSw);go_simp;try (with_reducible rfl)
  try simp only [Act.put,sA1,sA2,sA3,sA4,sA5,sA6]
  refine tkH (v:=?_) 5 rfl ?_ ?_;rotate_left 1
  ·intro wq hSw;(try dsimp only at hSw);go_simp;try (with_reducible rfl)
  try simp only [Act.put,sA1,sA2,sA3,sA4,sA5,sA6]
  refine tkH (v:=?_) 6 rfl ?_ ?_;rotate_left 1
  ·intro wq hSw;(try dsimp only at hSw);go_simp;try (with_reducible rfl)
  try simp only [Act.put,sA1,sA2,sA3,sA4,sA5,sA6]
  refine tkH (v:=?_) 7 rfl ?_ ?_;rotate_left 1
  ·intro wq hSw;(try dsimp only at hSw);go_simp;try (with_reducible rfl)
  try simp only [Act.put,sA1,sA2,sA3,sA4,sA5,sA6]
  refine tkH (v:=?_) 8 rfl ?_ ?_;rotate_left 1
  ·intro wq hSw;(try dsimp only at hSw);go_simp;try (with_reducible rfl)
  try simp only [Act.put,sA1,sA2,sA3,sA4,sA5,sA6]
  refine tkH (v:=?_) 9 rfl ?_ ?_;rotate_left 1
  ·intro wq hSw;(try dsimp only at hSw);go_simp;try (with_reducible rfl)
  try simp only [Act.put,sA1,sA2,sA3,sA4,sA5,sA6]
  refine tkH (v:=?_) 10 rfl ?_ ?_;rotate_left 1
  ·intro wq hSw;(try dsimp only at hSw);go_simp;try (with_reducible rfl)
  try simp only [Act.put,sA1,sA2,sA3,sA4,sA5,sA6]
  refine tkH (v:=?_) 11 rfl ?_ ?_;rotate_left 1
  ·intro wq hSw;(try dsimp only at hSw);go_simp;try (with_reducible rfl)
  try simp only [Act.put,sA1,sA2,sA3,sA4,sA5,sA6]
  refine wpAnyH_done (by kernel_rfl) ?_ _
  clear c1 c2 cx
  obtain ⟨c1,c2,cx⟩:=hHeld
  go_upto_region 5 with fail
  refine wp_region_held_drew (S:=fun w''=>w''.cell? ⟨r,1,none⟩=some (.int .i64 (s:Nat))∧w''.cell? ⟨r,2,none⟩=some (.slice (some ⟨b,o,none⟩) n ch)∧w''.cell? ⟨b,o + (p - s),none⟩=some (.int .i64 x)) (by kernel_rfl) (⟨c1,c2,cx⟩) (fun hHeld=>?_)
  refine tkH (v:=?_) 0 rfl ?_ ?_;rotate_left 1
  ·intro wq hSw;(try dsimp only at hSw);go_simp;try (with_reducible rfl)
  try simp only [Act.put,sA1,sA3,sA4,sA5,sA6]
  refine tkH (v:=?_) 1 rfl ?_ ?_;rotate_left 1
  ·intro wq hSw;(try dsimp only at hSw);go_simp;try (with_reducible rfl)
  try simp only [Act.put,sA1,sA2,sA3,sA4,sA5,sA6]
  refine tkH (v:=?_) 2 rfl ?_ ?_;rotate_left 1
  ·intro wq hSw;(try dsimp only at hSw);go_simp;try (with_reducible rfl)
  try simp only [Act.put,sA1,sA2,sA3,sA4,sA5,sA6]
  refine tkH (v:=?_) 3 rfl ?_ ?_;rotate_left 1
  ·intro wq hSw;(try dsimp only at hSw);go_simp;try (with_reducible rfl)
  try simp only [Act.put,sA1,sA2,sA3,sA4,sA5,sA6]
  refine tkH (v:=?_) 4 rfl ?_ ?_;rotate_left 1
  ·intro wq hSw;(try dsimp only at hSw);go_simp;try (with_reducible rfl)
  try simp only [Act.put,sA1,sA2,sA3,sA4,sA5,sA6]
  refine tkH (v:=?_) 5 rfl ?_ ?_;rotate_left 1
  ·intro wq hSw;(try dsimp only at hSw);go_simp;try (with_reducible rfl)
  try simp only [Act.put,sA1,sA2,sA3,sA4,sA5,sA6]
  refine tkH (v:=?_) 6 rfl ?_ ?_;rotate_left 1
  ·intro wq hSw;(try dsimp only at hSw);go_simp;try (with_reducible rfl)
  try simp only [Act.put,sA1,sA2,sA3,sA4,sA5,sA6]
  refine tkH (v:=?_) 7 rfl ?_ ?_;rotate_left 1
  ·intro wq hSw;(try dsimp only at hSw);go_simp;try (with_reducible rfl)
  try simp only [Act.put,sA1,sA2,sA3,sA4,sA5,sA6]
  refine tkH (v:=?_) 8 rfl ?_ ?_;rotate_left 1
  ·intro wq hSw;(try dsimp only at hSw);go_simp;try (with_reducible rfl)
  try simp only [Act.put,sA1,sA2,sA3,sA4,sA5,sA6]
  refine tkH (v:=?_) 9 rfl ?_ ?_;rotate_left 1
  ·intro wq hSw;(try dsimp only at hSw);go_simp;try (with_reducible rfl)
  try simp only [Act.put,sA1,sA2,sA3,sA4,sA5,sA6]
  refine tkH (v:=?_) 10 rfl ?_ ?_;rotate_left 1
  ·intro wq hSw;(try dsimp only at hSw);go_simp;try (with_reducible rfl)
  try simp only [Act.put,sA1,sA2,sA3,sA4,sA5,sA6]
  refine tkH (v:=?_) 11 rfl ?_ ?_;rotate_left 1
  ·intro wq hSw;(try dsimp only at hSw);go_simp;try (with_reducible rfl)
  try simp only [Act.put,sA1,sA2,sA3,sA4,sA5,sA6]
  refine tkH (v:=?_) 12 rfl ?_ ?_;rotate_left 1
  ·intro wq hSw;(try dsimp only at hSw);go_simp;try (with_reducible rfl)
  try simp only [Act.put,sA1,sA2,sA3,sA4,sA5,sA6]
  refine tkH (v:=?_) 13 rfl ?_ ?_;rotate_left 1
  ·intro wq hSw;(try dsimp only at hSw);go_simp;try (with_reducible rfl)
  try simp only [Act.put,sA1,sA2,sA3,sA4,sA5,sA6]
  refine wpAnyH_done (by kernel_rfl) ?_ _
  go_wp2_with fail
  go_ret2
  exact ⟨by rw [HR.out.1,HR.out.2];rfl,⟨s,hs,by first | exact HT.out | exact HT.out.ext (Below.refl _ _).drew | exact HT.out.ext ((Below.refl _ _).drew).drew⟩,by first | exact Kps.refl _ _ | exact Kps.of_below _ (Below.refl _ _).drew | exact Kps.of_below _ ((Below.refl _ _).drew).drew⟩
 ·have hge:((s + n:Nat):Int)≤(p:Int):=by omega
  have hge':s + n≤p:=by omega
  have hw5:IntKind.i64.wrap ((p:Int) + 512)=(p:Int) + 512:=by rw [IntKind.wrap_i64];omega
  have AT:Hid (∀ w',Below w.heap.size w w'→Calls Tryz.prog 32 #[.pointer (some ⟨t,0,none⟩),.int .i64 (p:Nat),.int .i64 ((p:Int) + 512)] w' fun e w''=>AtR ((A.drop p).take 512) w' e w''):=fun w' hb=>by
   have:=Atoms_z enc w' t A (p:Nat) ((p:Int) + 512) (HT.out.tz.ext hb)
   rwa [sub_512] at this
  go_enter Tryz.func99,Tryz.ntmps99
  go_upto_region 1 with fail
  refine wp_region_held_drew (S:=fun w''=>w''.cell? ⟨r,0,none⟩=some (.pointer (some ⟨t,0,none⟩))∧w''.cell? ⟨r,1,none⟩=some (.int .i64 (s:Nat))∧w''.cell? ⟨r,2,none⟩=some (.slice ah n ch)) (by kernel_rfl) (⟨c0,c1,c2⟩) (fun hHeld=>?_)
  refine tkH (v:=?_) 0 rfl ?_ ?_;rotate_left 1
  ·intro wq hSw;(try dsimp only at hSw);go_simp;try (with_reducible rfl)
  try simp only [Act.put,sA1,sA3,sA4,sA5,sA6]
  refine tkH (v:=?_) 1 rfl ?_ ?_;rotate_left 1
  ·intro wq hSw;(try dsimp only at hSw);go_simp;try (with_reducible rfl)
  try simp only [Act.put,sA1,sA2,sA3,sA4,sA5,sA6]
  refine tkH (v:=?_) 2 rfl ?_ ?_;rotate_left 1
  ·intro wq hSw;(try dsimp only at hSw);go_simp;try (with_reducible rfl)
  try simp only [Act.put,sA1,sA2,sA3,sA4,sA5,sA6]
  refine tkH (v:=?_) 3 rfl ?_ ?_;rotate_left 1
  ·intro wq hSw;(try dsimp only at hSw);go_simp;try (with_reducible rfl)
  try simp only [Act.put,sA1,sA2,sA3,sA4,sA5,sA6]
  refine tkH (v:=?_) 4 rfl ?_ ?_;rotate_left 1
  ·intro wq hSw;(try dsimp only at hSw);go_simp;try (with_reducible rfl)
  try simp only [Act.put,sA1,sA2,sA3,sA4,sA5,sA6]
  refine tkH (v:=?_) 5 rfl ?_ ?_;rotate_left 1
  ·intro wq hSw;(try dsimp only at hSw);go_simp;try (with_reducible rfl)
  try simp only [Act.put,sA1,sA2,sA3,sA4,sA5,sA6]
  refine tkH (v:=?_) 6 rfl ?_ ?_;rotate_left 1
  ·intro wq hSw;(try dsimp only at hSw);go_simp;try (with_reducible rfl)
  try simp only [Act.put,sA1,sA2,sA3,sA4,sA5,sA6]
  refine tkH (v:=?_) 7 rfl ?_ ?_;rotate_left 1
  ·intro wq hSw;(try dsimp only at hSw);go_simp;try (with_reducible rfl)
  try simp only [Act.put,sA1,sA2,sA3,sA4,sA5,sA6]
  refine tkH (v:=?_) 8 rfl ?_ ?_;rotate_left 1
  ·intro wq hSw;(try dsimp only at hSw);go_simp;try (with_reducible rfl)
  try simp only [Act.put,sA1,sA2,sA3,sA4,sA5,sA6]
  refine tkH (v:=?_) 9 rfl ?_ ?_;rotate_left 1
  ·intro wq hSw;(try dsimp only at hSw);go_simp;try (with_reducible rfl)
  try simp only [Act.put,sA1,sA2,sA3,sA4,sA5,sA6]
  refine tkH (v:=?_) 10 rfl ?_ ?_;rotate_left 1
  ·intro wq hSw;(try dsimp only at hSw);go_simp;try (with_reducible rfl)
  try simp only [Act.put,sA1,sA2,sA3,sA4,sA5,sA6]
  refine tkH (v:=?_) 11 rfl ?_ ?_;rotate_left 1
  ·intro wq hSw;(try dsimp only at hSw);go_simp;try (with_reducible rfl)
  try simp only [Act.put,sA1,sA2,sA3,sA4,sA5,sA6]
  refine wpAnyH_done (by kernel_rfl) ?_ _
  clear c0 c1 c2
  obtain ⟨c0,c1,c2⟩:=hHeld
  have hHeld:=c0
  go_upto_region 3 with (go_at_call 32;refine (AT.out _ (Below.drew (Below.refl _ _))).mono ?_;rintro e w2 ⟨v2,rfl,ho2,hb⟩;have HB2:=hidIt (ext_trans (Below.drew (Below.refl w.heap.size w)) hb);obtain ⟨a2,k2,hv2⟩:=ho2.form;generalize hn2:((A.drop p).take 512).length=n2 at hv2;have HN2:=hidIt hn2;clear hn2;subst hv2;have HO2:=hidIt ho2;clear ho2 hb c0 c1 c2 fz hHeld;have HG2:=hidIt ((HB2.out.block r (Array.getElem?_eq_some_iff.1 HG.out).1).trans HG.out);obtain ⟨_,c0,c1,c2,fz⟩:=cells3x HG2.out;(try dsimp only))
  generalize hwF:World.setCell (World.setCell w2 _ _) _ _=wF
  have HF:Hid (wF.heap[r]?=some (.cells #[.pointer (some ⟨t,0,none⟩),.int .i64 (p:Nat),.slice a2 n2 k2] 115 (0,0))∧Kps (fun k=>k=r) w2 wF):=by
   unfold Hid
   rw [← hwF]
   obtain ⟨h1,g1⟩:=set1 HG2.out 1 (.int .i64 (p:Nat))
   obtain ⟨h2,g2⟩:=set1 h1 2 (.slice a2 n2 k2)
   exact ⟨h2,Kps.grown (grown_trans g1 g2) fun j e _=>by cases e;rfl⟩
  have HTY:Hid (Typ 115 w2 r):=⟨_,HG2.out⟩
  have HOF:Hid (OwnI wF 0 (.slice a2 n2 k2) ((A.drop p).take 512)):=((HO2.out.le (Nat.zero_le _)).oth HF.out.2 HTY.out (by decide))
  have HRF:Hid (Rdr enc A wF r t p H):=⟨⟨_,_,HF.out.1,HOF.out,by rw [List.length_take,List.take_eq_take_min],fun g hg=>HHH.out g (ownI_ge HO2.out hg)⟩,(HT.out.tz.ext HB2.out).other HF.out.2 HTY.out (by decide) (by decide) hrt⟩
  have HKF:Hid (Kps (fun k=>k=r) w wF):=(Kps.of_below _ HB2.out).trans HF.out.2 (fun _ _ e=>e)
  obtain ⟨_,f0,f1,f2,_⟩:=cells3x HF.out.1
  clear hwF c0 c1 c2 fz
  cases hx:A[p]? with
  | none =>
    have hn0:n2=0:=by rw [← HN2.out,List.length_take,List.length_drop];have:=List.getElem?_eq_none_iff.1 hx;omega
    have HR:=hidIt (show aV A p=0∧aB A p=false from ⟨by unfold aV;rw [hx];rfl,by unfold aB;rw [hx];rfl⟩)
    subst hn0
    clear hx
    go_wp2_with fail
    go_ret2
    exact ⟨by rw [HR.out.1,HR.out.2];rfl,⟨p,Nat.le_refl _,HRF.out⟩,HKF.out⟩
  | some x =>
    have hpl:=(List.getElem?_eq_some_iff.1 hx).1
    have hn0:0 < n2:=by rw [← HN2.out,List.length_take,List.length_drop];omega
    have hh:((A.drop p).take 512)[0]?=some x:=by rw [List.getElem?_take,if_pos (by omega),List.getElem?_drop,Nat.add_zero];exact hx
    have HR:=hidIt (show aV A p=x∧aB A p=true from ⟨by unfold aV;rw [hx];rfl,by unfold aB;rw [hx];rfl⟩)
    obtain ⟨b,o,hbo,hbl,cx,_⟩:=rd_at HOF.out.rdi 0 (List.getElem?_eq_some_iff.1 hh).1
    rw [hh,Option.getD_some,Nat.add_zero] at cx
    subst hbo
    have hnz:¬ ((n2:Int)=0):=by omega
    have hnz':¬ (n2=0):=by omega
    have hnb:((n2:Int) == 0)=false:=by simp;omega
    have hws:IntKind.i64.wrap 0=0:=by rw [IntKind.wrap_i64];omega
    clear hx hh
    go_upto_region 5 with fail
    refine wp_region_held_drew (S:=fun w''=>w''.cell? ⟨r,1,none⟩=some (.int .i64 (p:Nat))∧w''.cell? ⟨r,2,none⟩=some (.slice (some ⟨b,o,none⟩) n2 k2)∧w''.cell? ⟨b,o,none⟩=some (.int .i64 x)) (by kernel_rfl) (⟨f1,f2,cx⟩) (fun hHeld=>?_)
    refine tkH (v:=?_) 0 rfl ?_ ?_;rotate_left 1
    ·intro wq hSw;(try dsimp only at hSw);go_simp;try (with_reducible rfl)
    try simp only [Act.put,sA1,sA3,sA4,sA5,sA6]
    refine tkH (v:=?_) 1 rfl ?_ ?_;rotate_left 1
    ·intro wq hSw;(try dsimp only at hSw);go_simp;try (with_reducible rfl)
    try simp only [Act.put,sA1,sA2,sA3,sA4,sA5,sA6]
    refine tkH (v:=?_) 2 rfl ?_ ?_;rotate_left 1
    ·intro wq hSw;(try dsimp only at hSw);go_simp;try (with_reducible rfl)
    try simp only [Act.put,sA1,sA2,sA3,sA4,sA5,sA6]
    refine tkH (v:=?_) 3 rfl ?_ ?_;rotate_left 1
    ·intro wq hSw;(try dsimp only at hSw);go_simp;try (with_reducible rfl)
    try simp only [Act.put,sA1,sA2,sA3,sA4,sA5,sA6]
    refine tkH (v:=?_) 4 rfl ?_ ?_;rotate_left 1
    ·intro wq hSw;(try dsimp only at hSw);go_simp;try (with_reducible rfl)
    try simp only [Act.put,sA1,sA2,sA3,sA4,sA5,sA6]
    refine tkH (v:=?_) 5 rfl ?_ ?_;rotate_left 1
    ·intro wq hSw;(try dsimp only at hSw);go_simp;try (with_reducible rfl)
    try simp only [Act.put,sA1,sA2,sA3,sA4,sA5,sA6]
    refine tkH (v:=?_) 6 rfl ?_ ?_;rotate_left 1
    ·intro wq hSw;(try dsimp only at hSw);go_simp;try (with_reducible rfl)
    try simp only [Act.put,sA1,sA2,sA3,sA4,sA5,sA6]
    refine tkH (v:=?_) 7 rfl ?_ ?_;rotate_left 1
    ·intro wq hSw;(try dsimp only at hSw);go_simp;try (with_reducible rfl)
    try simp only [Act.put,sA1,sA2,sA3,sA4,sA5,sA6]
    refine tkH (v:=?_) 8 rfl ?_ ?_;rotate_left 1
    ·intro wq hSw;(try dsimp only at hSw);go_simp;try (with_reducible rfl)
    try simp only [Act.put,sA1,sA2,sA3,sA4,sA5,sA6]
    refine tkH (v:=?_) 9 rfl ?_ ?_;rotate_left 1
    ·intro wq hSw;(try dsimp only at hSw);go_simp;try (with_reducible rfl)
    try simp only [Act.put,sA1,sA2,sA3,sA4,sA5,sA6]
    refine tkH (v:=?_) 10 rfl ?_ ?_;rotate_left 1
    ·intro wq hSw;(try dsimp only at hSw);go_simp;try (with_reducible rfl)
    try simp only [Act.put,sA1,sA2,sA3,sA4,sA5,sA6]
    refine tkH (v:=?_) 11 rfl ?_ ?_;rotate_left 1
    ·intro wq hSw;(try dsimp only at hSw);go_simp;try (with_reducible rfl)
    try simp only [Act.put,sA1,sA2,sA3,sA4,sA5,sA6]
    refine tkH (v:=?_) 12 rfl ?_ ?_;rotate_left 1
    ·intro wq hSw;(try dsimp only at hSw);go_simp;try (with_reducible rfl)
    try simp only [Act.put,sA1,sA2,sA3,sA4,sA5,sA6]
    refine tkH (v:=?_) 13 rfl ?_ ?_;rotate_left 1
    ·intro wq hSw;(try dsimp only at hSw);go_simp;try (with_reducible rfl)
    try simp only [Act.put,sA1,sA2,sA3,sA4,sA5,sA6]
    refine wpAnyH_done (by kernel_rfl) ?_ _
    go_wp2_with fail
    go_ret2
    exact ⟨by rw [HR.out.1,HR.out.2];rfl,⟨p,Nat.le_refl _,HRF.out.ext (Below.refl _ _).drew⟩,HKF.out.trans (Kps.of_below (fun _=>False) (Below.refl _ _).drew) (fun _ _ e=>e.elim)⟩
end Go.Proofs.YtpfgoobmkkmidaaGreat.P
