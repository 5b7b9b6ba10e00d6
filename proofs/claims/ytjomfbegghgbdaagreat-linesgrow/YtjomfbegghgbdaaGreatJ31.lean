import Derived.Test.YtjomfbegghgbdaaGreatJ00
import Derived.Test.YtjomfbegghgbdaaGreatJ27
import Derived.Test.YtjomfbegghgbdaaGreatJ30
namespace Go.Proofs.YtjomfbegghgbdaaGreat
open Go.ChangeShapes Go.WideShapes Go.ChangeAt Go.RowKit
theorem cSl:Tryz.prog.cellsOf 27=1:=by kernel_rfl
theorem cSb:Tryz.prog.cellsOf 22=1:=by kernel_rfl
theorem cIn:Tryz.prog.cellsOf 3=1:=by kernel_rfl
theorem cOp:Tryz.prog.cellsOf 38=5:=by kernel_rfl
theorem cSt:Tryz.prog.cellsOf 24=2:=by kernel_rfl
theorem weights_elem {H:Type} {P:Program} {e:TypeId}:∀ {l:List (DataW H)} {d:DataW H},d ∈ l→∀ n ∈ d.weights P e,n ∈ DataW.weightsAll P e l
 | x :: l,d,h,n,hn=>by
   simp only [DataW.weightsAll,List.mem_append]
   rcases List.mem_cons.1 h with rfl | h
   ·exact Or.inl hn
   ·exact Or.inr (weights_elem h n hn)
theorem weights_slice {H:Type} {P:Program} {t e:TypeId} {el sp:List (DataW H)} {d:DataW H} (hu:P.underlying t=some (.slice e)) (h:d ∈ el):∀ n ∈ d.weights P e,n ∈ (DataW.slice el sp).weights P t:=by
 intro n hn
 simp only [DataW.weights,hu,List.mem_cons,List.mem_append]
 exact Or.inr (Or.inl (weights_elem h n hn))
theorem weights_part {H:Type} {P:Program} {t:TypeId} {fs:Array Field} {parts:List (DataW H)} {d:DataW H} (hu:P.underlying t=some (.struct fs)) {j:Nat} {f:Field} (hf:fs[j]?=some f) (hd:parts[j]?=some d):∀ n ∈ d.weights P f.type,n ∈ (DataW.agg parts).weights P t:=by
 intro n hn
 simp only [DataW.weights,hu]
 exact DataW.weights_mem_each (j:=j) (by simp [hf]) hd n hn
theorem inner_of {H:Type} {enc:TypeId × Value→H} {W:World} {fuel:Nat} {c:Value} {d:DataW H} {p:List MemPlace}
  (h:DataW.trod enc Tryz.prog W 0 (fun _=>true) true fuel 27 [c]=some (d,p)) :
  ∃ ao cap zs,c=.slice ao zs.length cap∧Rd .i64 W (.slice ao zs.length cap) zs∧(zs=[]∨∃ el sp,d=.slice el sp∧el.length=zs.length):=by
 have hs:∃ ao len cap,c=.slice ao len cap:=by
  rcases DataW.trod_slice Tryz.underlying27 h with ⟨hcs,_⟩ | ⟨x,l,k,elems,rest,n,_,hcs,_⟩
  ·exact ⟨none,0,0,by simpa using hcs⟩
  ·exact ⟨some x,l,k,by simpa using hcs⟩
 obtain ⟨ao,len,cap,rfl⟩:=hs
 obtain ⟨zs,hr,_,hd⟩:=rd_of (enc:=enc) (d:=d) (p:=p) Tryz.underlying27 Tryz.underlying3 (by kernel_rfl) ⟨fuel,by simpa [Value.cells] using h⟩
 obtain ⟨ao',cap',hv,r1,r2,r3⟩:=id hr
 simp only [Value.slice.injEq] at hv
 obtain ⟨rfl,rfl,rfl⟩:=hv
 exact ⟨ao,cap,zs,rfl,hr,hd⟩
theorem inner_bound {H:Type} {zs:List Int} {d:DataW H} (hd:zs=[]∨∃ el sp,d=DataW.slice el sp∧el.length=zs.length) (hw:∀ n ∈ d.weights Tryz.prog 27,n≤reachBytes):zs.length * 8≤140737488351232:=by
 rcases hd with rfl | ⟨el,sp,rfl,hel⟩
 ·simp
 ·have:=hw ((el.length + sp.length) * Tryz.prog.bytesOf 3) (by simp [DataW.weights,Tryz.underlying27])
  rw [bytesK_i64] at this
  simp only [reachBytes] at this
  omega
set_option maxRecDepth 100000 in
theorem start_of {H:Type} {enc:TypeId × Value→H} {W:World} {base:Nat} {v:Value} {d:DataW H} {p:List MemPlace} (hv:Value.okWide Tryz.prog W .any base 24 v)
  (h:DataW.Trod enc Tryz.prog W 0 (fun _=>true) true 24 v d p):∃ x ad nd cd D,v=.agg #[.int .i64 x,.slice ad nd cd]∧Rd .u8 W (.slice ad nd cd) D∧Byt D:=by
 obtain ⟨cs,rfl,hs⟩:=okWide_struct Tryz.underlying24 hv
 obtain ⟨fuel,hf⟩:=h
 have hc:(Value.agg cs).cells=cs:=by simp [Value.cells]
 rw [hc] at hf
 obtain ⟨xs,n,rfl,hx,hl,hxl,hall⟩:=DataW.trod_struct Tryz.underlying24 hf
 match xs,hxl with
 | [x0,x1],_ =>
   obtain ⟨k0,e0,r0,w0⟩:=DataW.trod_int Tryz.underlying3 (hall 0 _ rfl)
   have h1:=hall 1 _ rfl
   have e0':(cs.toList.drop 0).take (Tryz.prog.cellsOf 3)=[.int .i64 k0]:=e0
   have h1':DataW.trod enc Tryz.prog W 0 (fun _=>true) true n 22 ((cs.toList.drop 1).take (Tryz.prog.cellsOf 22))=some x1:=h1
   rw [cSt] at hl
   rw [cIn] at e0'
   rw [cSb] at h1'
   obtain ⟨l⟩:=cs
   match l,hl with
   | [c0,c1],_ =>
     simp at e0'
     subst e0'
     simp only [List.drop_succ_cons,List.drop_zero,List.take_succ_cons,List.take_zero] at h1'
     have hsl:∃ ao len cap,c1=.slice ao len cap:=by
      rcases DataW.trod_slice Tryz.underlying22 h1' with ⟨hcs,_⟩ | ⟨x,l,k,elems,rest,n,_,hcs,_⟩
      ·exact ⟨none,0,0,by simpa using hcs⟩
      ·exact ⟨some x,l,k,by simpa using hcs⟩
     obtain ⟨ao,len,cap,rfl⟩:=hsl
     obtain ⟨zs,hr,hw,_⟩:=rd_of (enc:=enc) (d:=x1.1) (p:=x1.2) Tryz.underlying22 Tryz.underlying5 (by kernel_rfl) ⟨n,by simpa [Value.cells] using h1'⟩
     exact ⟨k0,ao,len,cap,zs,rfl,hr,byt_of hw⟩
structure OpAt (w:World) (f:Nat→Option Value) (o:P.Opv):Prop where
 c0:f 0=some (.int .i64 o.who)
 c1:f 1=some (.int .i64 o.k)
 c2:f 2=some (.int .i64 o.a)
 c3:f 3=some (.int .i64 o.b)
 c4:∃ pv,f 4=some pv∧Rd .i64 w pv o.put
 ok:o.Ok
set_option maxRecDepth 100000 in
theorem op_cells {H:Type} {enc:TypeId × Value→H} {w:World} {fuel:Nat} {cs:List Value} {d:DataW H} {p:List MemPlace}
  (h:DataW.trod enc Tryz.prog w 0 (fun _=>true) true fuel 38 cs=some (d,p)) (hw:∀ n ∈ d.weights Tryz.prog 38,n≤reachBytes) :
  ∃ o:P.Opv,OpAt w (fun i=>cs[i]?) o:=by
 obtain ⟨xs,n,rfl,hx,hl,hxl,hall⟩:=DataW.trod_struct Tryz.underlying38 h
 match xs,hxl with
 | [x0,x1,x2,x3,x4],_ =>
   obtain ⟨k0,e0,r0,w0⟩:=DataW.trod_int Tryz.underlying3 (hall 0 _ rfl)
   obtain ⟨k1,e1,r1,w1⟩:=DataW.trod_int Tryz.underlying3 (hall 1 _ rfl)
   obtain ⟨k2,e2,r2,w2⟩:=DataW.trod_int Tryz.underlying3 (hall 2 _ rfl)
   obtain ⟨k3,e3,r3,w3⟩:=DataW.trod_int Tryz.underlying3 (hall 3 _ rfl)
   have h4:=hall 4 _ rfl
   have e0':(cs.drop 0).take (Tryz.prog.cellsOf 3)=[.int .i64 k0]:=e0
   have e1':(cs.drop 1).take (Tryz.prog.cellsOf 3)=[.int .i64 k1]:=e1
   have e2':(cs.drop 2).take (Tryz.prog.cellsOf 3)=[.int .i64 k2]:=e2
   have e3':(cs.drop 3).take (Tryz.prog.cellsOf 3)=[.int .i64 k3]:=e3
   have h4':DataW.trod enc Tryz.prog w 0 (fun _=>true) true n 27 ((cs.drop 4).take (Tryz.prog.cellsOf 27))=some x4:=h4
   rw [cOp] at hl
   rw [cIn] at e0' e1' e2' e3'
   rw [cSl] at h4'
   match cs,hl with
   | [c0,c1,c2,c3,c4],_ =>
     simp at e0' e1' e2' e3'
     subst e0';subst e1';subst e2';subst e3'
     simp only [List.drop_succ_cons,List.drop_zero,List.take_succ_cons,List.take_zero] at h4'
     obtain ⟨ai,ci,zs,rfl,hr,hd⟩:=inner_of (d:=x4.1) (p:=x4.2) h4'
     have q2:=bounds_i64 w2
     have q3:=bounds_i64 w3
     refine ⟨⟨k0,k1,k2,k3,zs⟩,rfl,rfl,rfl,rfl,⟨_,rfl,hr⟩,⟨by dsimp only;omega,by dsimp only;omega,inner_bound hd ?_⟩⟩
     intro m hm
     refine hw m ?_
     obtain ⟨rfl,_⟩:=Prod.mk.inj hx
     exact weights_part (t:=38) (j:=4) Tryz.underlying38 rfl (d:=x4.1) rfl m hm
set_option maxRecDepth 100000 in
theorem ops_of {H:Type} {enc:TypeId × Value→H} {W:World} {a0:Option Addr} {len0 cap0:Nat} {d:DataW H} {p:List MemPlace}
  (h:DataW.Trod enc Tryz.prog W 0 (fun _=>true) true 25 (.slice a0 len0 cap0) d p) (hw:∀ n ∈ d.weights Tryz.prog 25,n≤reachBytes) :
  ∃ os,P.RdO W (.slice a0 len0 cap0) os:=by
 obtain ⟨fuel,hf⟩:=h
 rcases DataW.trod_slice Tryz.underlying25 hf with ⟨hcs,_⟩ | ⟨x,l,c,elems,rest,n,_,hcs,hx,hb,hl,hm,hlen,hel,_,_⟩
 ·simp [Value.cells] at hcs
  obtain ⟨rfl,rfl,rfl⟩:=hcs
  exact ⟨[],none,0,rfl,Nat.le_refl _,by omega,(fun o ho=>by cases ho),fun h=>absurd rfl h⟩
 ·simp [Value.cells] at hcs
  obtain ⟨rfl,rfl,rfl⟩:=hcs
  rw [cOp] at hel
  obtain ⟨rfl,_⟩:=Prod.mk.inj hx
  obtain ⟨b,off,spot⟩:=x
  have each:∀ i,∃ o:P.Opv,i < len0→OpAt W (fun j=>W.cell? (((⟨b,off,spot⟩:Addr).add (i * 5)).add j)) o:=by
   intro i
   by_cases hi:i < len0
   ·have hi':i < elems.length:=by omega
    have:=hel i hi
    rw [List.getElem?_eq_getElem hi',Option.bind_eq_some_iff] at this
    obtain ⟨cs,hcs,hy⟩:=this
    obtain ⟨o,ho⟩:=op_cells (d:=elems[i].1) (p:=elems[i].2) hy (fun m hm=>hw m (weights_slice Tryz.underlying25 (List.mem_map.2 ⟨elems[i],List.getElem_mem hi',rfl⟩) m hm))
    have hcell:=(World.cells?_some hcs).2.2
    obtain ⟨pv,h1,h2⟩:=ho.c4
    exact ⟨o,fun _=>⟨(hcell 0 (by omega)).trans ho.c0,(hcell 1 (by omega)).trans ho.c1,(hcell 2 (by omega)).trans ho.c2,(hcell 3 (by omega)).trans ho.c3,⟨pv,(hcell 4 (by omega)).trans h1,h2⟩,ho.ok⟩⟩
   ·exact ⟨⟨0,0,0,0,[]⟩,fun h=>absurd h hi⟩
  obtain ⟨f,hf'⟩:=Classical.skolem.1 each
  have hlr:((List.range len0).map f).length=len0:=by simp
  refine ⟨(List.range len0).map f,some ⟨b,off,spot⟩,cap0,by rw [hlr],by rw [hlr];exact hl,by unfold maxLen at hm;exact hm,fun o ho=>?_,fun hn=>?_⟩
  ·rw [List.mem_map] at ho
   obtain ⟨i,hi,rfl⟩:=ho
   exact (hf' i (List.mem_range.1 hi)).ok
  ·have hpos:0 < len0:=by rw [← hlr];exact List.length_pos_iff.2 hn
   have hs:spot=none:=by simpa [Addr.add] using World.cell?_spot (hf' 0 hpos).c0
   subst hs
   refine ⟨b,off,rfl,World.block_lt_of_cell? W _ (by simpa [Addr.add] using (hf' 0 hpos).c0),fun i e hie=>?_⟩
   have hi:i < len0:=by have:=(List.getElem?_eq_some_iff.1 hie).1;rwa [hlr] at this
   have e1:e=f i:=by rw [List.getElem?_map,List.getElem?_range hi] at hie;simpa using hie.symm
   subst e1
   have:=hf' i hi
   simp only [Addr.add_lit] at this
   exact ⟨this.c0,this.c1,this.c2,this.c3,this.c4⟩
end Go.Proofs.YtjomfbegghgbdaaGreat
